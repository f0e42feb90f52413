package medium_test

import (
	"bytes"
	"slices"
	"sync"
	"testing"

	"dailies/api"
	"dailies/medium"
)

// hands does one thing by so many goroutines, which begin together; what each says is wrong is told.
func hands(t *testing.T, n int, do func(hand int) string) {
	t.Helper()
	wrong := make([]string, n)
	var all sync.WaitGroup
	begin := make(chan struct{})
	for hand := range n {
		all.Go(func() {
			<-begin
			wrong[hand] = do(hand)
		})
	}
	close(begin)
	all.Wait()
	for hand, w := range wrong {
		if w != "" {
			t.Error("hand", hand, w)
		}
	}
}

// tagged are bytes that tell whose they are, and which.
func tagged(hand, k int) []byte {
	return bytes.Repeat([]byte{byte(hand), byte(k)}, 1+k%17)
}

// Appends of many hands stand one behind the other, each whole at the place that was told.
func TestHandsAppend(t *testing.T) {
	const many, rounds = 8, 400
	m := medium.New()
	places := make([][]int, many)
	hands(t, many, func(hand int) string {
		for k := range rounds {
			at, e := m.Append(tagged(hand, k))
			if e != api.OK {
				return "refused"
			}
			places[hand] = append(places[hand], at)
			if b, e := m.Read(at, len(tagged(hand, k))); e != api.OK || !bytes.Equal(b, tagged(hand, k)) {
				return "read otherwise than appended"
			}
		}
		return ""
	})
	total := 0
	for hand := range many {
		if !slices.IsSorted(places[hand]) {
			t.Error("places that fall:", hand)
		}
		for k, at := range places[hand] {
			b, e := m.Read(at, len(tagged(hand, k)))
			if e != api.OK || !bytes.Equal(b, tagged(hand, k)) {
				t.Fatal(hand, k, at, b, e)
			}
			total += len(b)
		}
	}
	if m.Size() != total || len(m.Log()) != 2*many*rounds {
		t.Error(m.Size(), total, len(m.Log()))
	}
}

// The log has each Read of each hand just once, those of one hand in their order.
func TestHandsRead(t *testing.T) {
	const many, rounds = 8, 500
	text := letters(many * rounds)
	m, _ := medium.Load([]byte(text))
	whole, _ := m.Piece(api.Span{Length: len(text)})
	hands(t, many, func(hand int) string {
		part, e := m.Piece(api.Span{At: hand * rounds, Length: rounds})
		if e != api.OK {
			return "no piece"
		}
		for k := range rounds {
			at := hand*rounds + k
			var b []byte
			switch k % 3 {
			case 0:
				b, e = m.Read(at, 1)
			case 1:
				b, e = part.Read(k, 1)
			case 2:
				b, e = whole.Read(at, 1)
			}
			if e != api.OK || string(b) != text[at:at+1] {
				return "read otherwise"
			}
		}
		return ""
	})
	log := m.Log()
	next := make([]int, many)
	for _, s := range log {
		hand := s.At / rounds
		if s != (api.Span{At: hand*rounds + next[hand], Length: 1}) {
			t.Fatal("not in the hand's order:", s, next[hand])
		}
		next[hand]++
	}
	if len(log) != many*rounds {
		t.Error(len(log))
	}
}

// Each call is done as a whole: no Read sees half of what is written over.
func TestHandsOverwrite(t *testing.T) {
	const many, rounds, size = 8, 60, 1 << 18
	m, _ := medium.Load(bytes.Repeat([]byte{200}, size))
	part, _ := m.Piece(api.Span{Length: size})
	hands(t, many, func(hand int) string {
		mine := bytes.Repeat([]byte{byte(hand)}, size)
		for k := range rounds {
			if m.Overwrite(0, mine) != api.OK {
				return "refused"
			}
			var b []byte
			e := api.OK
			switch k % 3 {
			case 0:
				b, e = m.Read(0, size)
			case 1:
				b, e = part.Read(0, size)
			case 2:
				b = m.Bytes()
			}
			if e != api.OK || len(b) != size || bytes.Count(b, b[:1]) != size {
				return "half of one and half of another"
			}
		}
		return ""
	})
}

// Of Appends of many hands to an armed medium just as many are taken as it was armed with, less one; then it is dead to all.
func TestHandsAtADeath(t *testing.T) {
	const many = 8
	for n := 1; n < 60; n++ {
		m := medium.New()
		must(t, m.Arm(n, 2), api.OK)
		taken := make([]int, many)
		hands(t, many, func(hand int) string {
			for range 20 {
				if _, e := m.Append([]byte("abc")); e == api.OK {
					taken[hand]++
				} else if e != api.ErrMediumDead || !m.Dead() {
					return "refused, and lives"
				}
			}
			return ""
		})
		sum := 0
		for _, k := range taken {
			sum += k
		}
		if sum != n-1 || m.Size() != 3*(n-1)+2 || !m.Dead() {
			t.Fatal(n, sum, m.Size())
		}
	}
}

// All calls at once, by many hands: what was never touched is read as it was, and nothing but the named errors is answered.
func TestHandsAtEverything(t *testing.T) {
	const many, rounds = 8, 300
	m, _ := medium.Load([]byte("untouched"))
	hands(t, many, func(hand int) string {
		c := chance(hand + 1)
		for range rounds {
			size := m.Size()
			at, _ := m.Append(c.some(c.below(30)))
			m.Arm(c.below(4), c.below(4))
			e := m.Overwrite(9+c.below(20), c.some(c.below(5)))
			f := m.Truncate(9 + c.below(200))
			if e != api.OK && e != api.ErrMediumRange || f != api.OK && f != api.ErrMediumRange || at < 0 || size < 9 {
				return "an error that has no name"
			}
			part, e := m.Piece(api.Span{At: 2, Length: 7})
			if e != api.OK {
				return "no piece of what is there"
			}
			if b, e := part.Read(0, 7); e != api.ErrMediumDead && (e != api.OK || string(b) != "touched") {
				return "a piece is another one"
			}
			if b, e := m.Read(0, 9); e != api.ErrMediumDead && (e != api.OK || string(b) != "untouched") {
				return "bytes are other ones"
			}
			if !bytes.HasPrefix(m.Bytes(), []byte("untouched")) {
				return "bytes are other ones"
			}
			for _, s := range m.Log() {
				if s != (api.Span{At: 2, Length: 7}) && s != (api.Span{Length: 9}) {
					return "what nobody read stands in the log"
				}
			}
			if c.below(3) == 0 {
				m.Forget()
			}
			if m.Dead() || c.below(2) == 0 {
				m.Revive()
			}
		}
		return ""
	})
}

// Hands at media of their own have nothing to do with one another.
func TestHandsAtMediaOfTheirOwn(t *testing.T) {
	hands(t, 8, func(hand int) string {
		c := chance(100 + hand)
		m, s := medium.New(), &said{}
		for range 300 {
			b := c.some(c.below(9))
			n, keep, cut := c.below(4), c.below(4), c.below(60)
			if m.Arm(n, keep) != s.arm(n, keep) || m.Truncate(cut) != s.truncate(cut) {
				return "another answer"
			}
			at, e := m.Append(b)
			if want, errno := s.append(string(b)); at != want || e != errno || string(m.Bytes()) != s.bytes || m.Dead() != s.dead {
				return "another answer"
			}
			if c.below(2) == 0 {
				m.Revive()
				s.revive()
			}
		}
		return ""
	})
}
