package medium_test

import (
	"math"
	"slices"
	"testing"

	"dailies/api"
	"dailies/medium"
)

// A new medium has no bytes, lives, is not armed, and has an empty log.
func TestNew(t *testing.T) {
	m := medium.New()
	if m == nil || m == medium.New() {
		t.Fatal("New made nothing of its own")
	}
	p := &pair{t, m, &said{}}
	p.stands()
	must(t, p.read(0, 0), api.OK)
	for range 20 {
		must(t, p.append("ab"), api.OK)
		must(t, p.append(""), api.OK)
	}
}

// A medium that was loaded has its bytes, lives, is not armed, and has an empty log.
func TestLoad(t *testing.T) {
	for n := range 40 {
		p := loaded(t, letters(n))
		p.stands()
		for range 3 {
			must(t, p.append("x"), api.OK)
		}
		must(t, p.read(0, n+3), api.OK)
	}
	for _, b := range [][]byte{nil, {}} {
		m, e := medium.Load(b)
		if m == nil || e != api.OK || m.Size() != 0 || len(m.Bytes()) != 0 || len(m.Log()) != 0 || m.Dead() {
			t.Fatal(m, e)
		}
	}
}

// Size and Bytes are told of a dead one too, and neither stands in the log.
func TestSizeAndBytes(t *testing.T) {
	for _, p := range []*pair{loaded(t, ""), loaded(t, "abc"), died(t, ""), died(t, "abc")} {
		for range 3 {
			if p.m.Size() != len(p.s.bytes) || string(p.m.Bytes()) != p.s.bytes || len(p.m.Log()) != 0 {
				t.Fatal(p.m.Size(), p.m.Bytes(), p.m.Log())
			}
		}
	}
}

// Each span of media of few bytes: those that lie in them are told and stand in the log, those of no bytes among them; all others are refused and do not.
func TestReadEachSpan(t *testing.T) {
	for size := range 9 {
		p := loaded(t, letters(size))
		for at := -3; at < size+4; at++ {
			for n := -3; n < size+4; n++ {
				p.read(at, n)
			}
		}
		if len(p.m.Log()) != (size+1)*(size+2)/2 {
			t.Fatal(size, len(p.m.Log()))
		}
	}
}

// A span of no bytes lies in a medium at its end, and not behind it.
func TestReadOfNoBytes(t *testing.T) {
	for size := range 5 {
		p := loaded(t, letters(size))
		must(t, p.read(size, 0), api.OK)
		must(t, p.read(size+1, 0), api.ErrMediumRange)
		must(t, p.read(-1, 0), api.ErrMediumRange)
		if !slices.Equal(p.m.Log(), []api.Span{{At: size}}) {
			t.Fatal(p.m.Log())
		}
	}
}

// Numbers below 0, numbers however great, and such as together go round to what would lie in the bytes.
func TestReadOfAnyNumbers(t *testing.T) {
	p := loaded(t, "abcdef")
	for _, x := range odd() {
		for _, y := range append(odd(), 0, 1, 2, 5, 6, 7) {
			must(t, p.read(x, y), api.ErrMediumRange)
			must(t, p.read(y, x), api.ErrMediumRange)
		}
	}
	for _, x := range []api.Span{{At: math.MaxInt, Length: math.MaxInt}, {At: math.MaxInt, Length: 1}, {At: 1, Length: math.MaxInt}, {At: math.MinInt, Length: math.MinInt}, {At: -1, Length: 2}, {At: 5, Length: -1}} {
		must(t, p.read(x.At, x.Length), api.ErrMediumRange)
	}
	if len(p.m.Log()) != 0 {
		t.Fatal(p.m.Log())
	}
}

// Of a dead medium nothing is read, and that is told ahead of a span that does not lie in it.
func TestReadOfADeadOne(t *testing.T) {
	p := loaded(t, "abc")
	must(t, p.read(1, 1), api.OK)
	must(t, p.arm(1, 9), api.OK)
	must(t, p.append("de"), api.ErrMediumDead)
	for _, x := range append(odd(), 0, 1, 3, 5, 6) {
		for _, y := range append(odd(), 0, 1, 3, 5, 6) {
			must(t, p.read(x, y), api.ErrMediumDead)
		}
	}
	p.revive()
	must(t, p.read(3, 2), api.OK)
	if !slices.Equal(p.m.Log(), []api.Span{{At: 1, Length: 1}, {At: 3, Length: 2}}) {
		t.Fatal(p.m.Log())
	}
}

// The answer of Append is how many bytes there were, whatever came between.
func TestAppendTellsThePlace(t *testing.T) {
	p := loaded(t, "ab")
	for i, b := range []string{"", "x", "", "yz", letters(100), "", "q"} {
		at := len(p.s.bytes)
		if got, e := p.m.Append([]byte(b)); got != at || e != api.OK {
			t.Fatal(i, got, e)
		}
		p.s.append(b)
		must(t, p.read(at, len(b)), api.OK)
	}
	must(t, p.truncate(5), api.OK)
	must(t, p.append("!"), api.OK)
	must(t, p.overwrite(0, "??????"), api.OK)
	must(t, p.append("."), api.OK)
	if string(p.m.Bytes()) != "??????." {
		t.Fatal(string(p.m.Bytes()))
	}
	if at, e := medium.New().Append(nil); at != 0 || e != api.OK {
		t.Fatal(at, e)
	}
}

// Armed with so many Appends and so many bytes, it dies in just that one, those of no bytes counted, and keeps just so many.
func TestArmEach(t *testing.T) {
	for appends := 1; appends < 5; appends++ {
		for length := range 5 {
			for _, keep := range []int{0, 1, length - 1, length, length + 1, 100, 1 << 28, 1 << 40, math.MaxInt} {
				if keep < 0 {
					continue
				}
				for _, ahead := range []string{"", "x"} {
					p := loaded(t, "first")
					must(t, p.arm(appends, keep), api.OK)
					for range appends - 1 {
						must(t, p.append(ahead), api.OK)
					}
					must(t, p.append(letters(length)), api.ErrMediumDead)
					if n := 5 + (appends-1)*len(ahead) + min(keep, length); p.m.Size() != n || !p.m.Dead() {
						t.Fatal(appends, length, keep, p.m.Size())
					}
					must(t, p.append(""), api.ErrMediumDead)
					must(t, p.append("more"), api.ErrMediumDead)
					p.revive()
					for range appends + 2 {
						must(t, p.append("y"), api.OK)
					}
				}
			}
		}
	}
}

// Armed with as many Appends as there are numbers it takes them all.
func TestArmWithMany(t *testing.T) {
	for _, n := range []int{50, 1 << 31, 1 << 32, math.MaxInt} {
		p := loaded(t, "")
		must(t, p.arm(n, 0), api.OK)
		for range 49 {
			must(t, p.append("a"), api.OK)
		}
		if n == 50 {
			must(t, p.append("a"), api.ErrMediumDead)
		}
		if p.m.Size() != 49 {
			t.Fatal(p.m.Size())
		}
	}
}

// Armed with no Appends it is not armed, whatever the bytes are; Arm takes the place of what was armed.
func TestArmAgain(t *testing.T) {
	for _, first := range []int{0, 1, 2, 3} {
		for _, then := range []int{0, 1, 2, 3} {
			for _, keep := range []int{0, 1, 5} {
				p := loaded(t, "")
				must(t, p.arm(first, 2), api.OK)
				must(t, p.arm(then, keep), api.OK)
				for range then - 1 {
					must(t, p.append("abc"), api.OK)
				}
				want := api.OK
				if then > 0 {
					want = api.ErrMediumDead
				}
				must(t, p.append("abc"), want)
			}
		}
	}
	p := loaded(t, "")
	must(t, p.arm(2, 0), api.OK)
	must(t, p.append("a"), api.OK)
	must(t, p.arm(2, 1), api.OK)
	must(t, p.append("b"), api.OK)
	must(t, p.append("cd"), api.ErrMediumDead)
}

// Numbers below 0 are refused, of a dead one its death is told first; what was armed stays so.
func TestArmRefused(t *testing.T) {
	for _, x := range below() {
		for _, y := range append(odd(), 0, 1) {
			for _, armed := range []int{0, 1, 2} {
				p := loaded(t, "a")
				must(t, p.arm(armed, 1), api.OK)
				must(t, p.arm(x, y), api.ErrArg)
				must(t, p.arm(y, x), api.ErrArg)
				if armed == 2 {
					must(t, p.append("bc"), api.OK)
				}
				want := api.OK
				if armed > 0 {
					want = api.ErrMediumDead
				}
				must(t, p.append("de"), want)
			}
		}
	}
	p := died(t, "a")
	for _, x := range append(odd(), 0, 1, 2) {
		for _, y := range append(odd(), 0, 1, 2) {
			must(t, p.arm(x, y), api.ErrMediumDead)
		}
	}
	p.revive()
	for range 3 {
		must(t, p.append("b"), api.OK)
	}
}

// Whether it is dead is asked without changing anything; only an Append kills.
func TestDead(t *testing.T) {
	p := loaded(t, "abc")
	must(t, p.arm(1, 0), api.OK)
	p.read(0, 1)
	p.read(9, 9)
	p.overwrite(0, "x")
	p.truncate(2)
	p.forget()
	p.piece(0, 1).read(0, 1)
	for range 3 {
		if p.m.Dead() {
			t.Fatal("it is dead")
		}
	}
	must(t, p.append("y"), api.ErrMediumDead)
	for range 3 {
		if !p.m.Dead() {
			t.Fatal("it lives")
		}
	}
}

// A medium that is revived lives and is not armed, whether it was dead or lived, and may be armed again.
func TestRevive(t *testing.T) {
	for armed := range 4 {
		p := loaded(t, "ab")
		must(t, p.read(0, 2), api.OK)
		must(t, p.arm(armed, 1), api.OK)
		p.revive()
		for range 4 {
			must(t, p.append("cd"), api.OK)
		}
		p.revive()
		must(t, p.arm(2, 1), api.OK)
		must(t, p.append("ef"), api.OK)
		must(t, p.append("gh"), api.ErrMediumDead)
		p.revive()
		p.revive()
		must(t, p.append("ij"), api.OK)
		must(t, p.arm(1, 0), api.OK)
		must(t, p.append("kl"), api.ErrMediumDead)
		if string(p.m.Bytes()) != "abcdcdcdcdefgij" || len(p.m.Log()) != 1 {
			t.Fatal(string(p.m.Bytes()), p.m.Log())
		}
	}
}

// Each span that may be written over, of media that live and of dead ones, and those that may not.
func TestOverwriteEachSpan(t *testing.T) {
	for size := range 7 {
		for _, made := range []func(*testing.T, string) *pair{loaded, died} {
			for n := range size + 3 {
				for at := -3; at < size+4; at++ {
					p := made(t, letters(size))
					b := "ABCDEFGHIJ"[:n]
					if e := p.overwrite(at, b); (e == api.OK) != (at >= 0 && at+n <= size) {
						t.Fatal(size, at, n, e)
					}
				}
			}
			p := made(t, letters(size))
			for _, at := range odd() {
				must(t, p.overwrite(at, ""), api.ErrMediumRange)
				must(t, p.overwrite(at, "x"), api.ErrMediumRange)
				must(t, p.overwrite(at, "0123456789"), api.ErrMediumRange)
			}
			must(t, p.overwrite(size, ""), api.OK)
			must(t, p.overwrite(size+1, ""), api.ErrMediumRange)
			if e := p.m.Overwrite(size, nil); e != api.OK {
				t.Fatal(e)
			}
		}
	}
}

// Each number of bytes that may be left, of media that live and of dead ones, and those that may not.
func TestTruncateEach(t *testing.T) {
	for size := range 7 {
		for _, made := range []func(*testing.T, string) *pair{loaded, died} {
			for n := -3; n < size+4; n++ {
				p := made(t, letters(size))
				if e := p.truncate(n); (e == api.OK) != (n >= 0 && n <= size) {
					t.Fatal(size, n, e)
				}
			}
			p := made(t, letters(size))
			for _, n := range odd() {
				must(t, p.truncate(n), api.ErrMediumRange)
			}
			for n := size; n >= 0; n-- {
				must(t, p.truncate(n), api.OK)
				must(t, p.truncate(n+1), api.ErrMediumRange)
			}
		}
	}
}

// What was cut off does not come back, by whatever is read or appended then.
func TestTruncateForGood(t *testing.T) {
	p := loaded(t, "abcdef")
	must(t, p.truncate(2), api.OK)
	must(t, p.read(2, 1), api.ErrMediumRange)
	must(t, p.overwrite(2, "x"), api.ErrMediumRange)
	must(t, p.truncate(3), api.ErrMediumRange)
	must(t, p.append("x"), api.OK)
	must(t, p.append(""), api.OK)
	must(t, p.read(0, 3), api.OK)
	must(t, p.read(0, 4), api.ErrMediumRange)
	must(t, p.truncate(0), api.OK)
	must(t, p.arm(1, 2), api.OK)
	must(t, p.append("yzw"), api.ErrMediumDead)
	must(t, p.truncate(1), api.OK)
	p.revive()
	must(t, p.append("!"), api.OK)
	if string(p.m.Bytes()) != "y!" {
		t.Fatal(string(p.m.Bytes()))
	}
}

// Neither what is written over nor what is cut off counts as an Append, refused or not; both befall a dead one.
func TestWhatBefallsIsNoAppend(t *testing.T) {
	p := loaded(t, "abcdef")
	must(t, p.arm(2, 1), api.OK)
	for range 5 {
		must(t, p.overwrite(1, "x"), api.OK)
		must(t, p.overwrite(6, ""), api.OK)
		must(t, p.overwrite(6, "x"), api.ErrMediumRange)
		must(t, p.truncate(6), api.OK)
		must(t, p.truncate(7), api.ErrMediumRange)
	}
	must(t, p.append("gh"), api.OK)
	must(t, p.truncate(3), api.OK)
	must(t, p.overwrite(0, "ABC"), api.OK)
	must(t, p.append("gh"), api.ErrMediumDead)
	must(t, p.overwrite(3, "G"), api.OK)
	must(t, p.truncate(4), api.OK)
	must(t, p.overwrite(4, "H"), api.ErrMediumRange)
	if string(p.m.Bytes()) != "ABCG" || !p.m.Dead() {
		t.Fatal(string(p.m.Bytes()))
	}
}

// The log has spans in the order of the Reads, the same one as often as it was read, until it is forgotten; also of a dead one.
func TestLogAndForget(t *testing.T) {
	p := loaded(t, "abcdef")
	for _, s := range []api.Span{{At: 4, Length: 2}, {At: 0, Length: 6}, {At: 4, Length: 2}, {At: 6}, {}, {At: 4, Length: 2}} {
		must(t, p.read(s.At, s.Length), api.OK)
	}
	if l := p.m.Log(); len(l) != 6 || l[2] != l[0] || l[3] != (api.Span{At: 6}) {
		t.Fatal(l)
	}
	p.forget()
	must(t, p.read(1, 1), api.OK)
	must(t, p.arm(1, 0), api.OK)
	must(t, p.append("x"), api.ErrMediumDead)
	if l := p.m.Log(); !slices.Equal(l, []api.Span{{At: 1, Length: 1}}) {
		t.Fatal(l)
	}
	p.forget()
	p.forget()
	p.revive()
	must(t, p.read(2, 1), api.OK)
	must(t, p.truncate(0), api.OK)
	if l := p.m.Log(); !slices.Equal(l, []api.Span{{At: 2, Length: 1}}) {
		t.Fatal("what is cut off was read all the same:", l)
	}
}

func TestExampleOfAppends(t *testing.T) {
	p := &pair{t, medium.New(), &said{}}
	must(t, p.append("abc"), api.OK)
	must(t, p.append("de"), api.OK)
	must(t, p.read(2, 2), api.OK)
	must(t, p.read(4, 2), api.ErrMediumRange)
	if l := p.m.Log(); !slices.Equal(l, []api.Span{{At: 2, Length: 2}}) {
		t.Fatal(l)
	}
	must(t, p.arm(2, 1), api.OK)
	if at, e := p.m.Append([]byte("x")); at != 5 || e != api.OK {
		t.Fatal(at, e)
	}
	if at, e := p.m.Append([]byte("yz")); at != 0 || e != api.ErrMediumDead {
		t.Fatal(at, e)
	}
	if p.m.Size() != 7 || string(p.m.Bytes()) != "abcdexy" {
		t.Fatal(string(p.m.Bytes()))
	}
	if b, e := p.m.Read(0, 1); len(b) != 0 || e != api.ErrMediumDead {
		t.Fatal(b, e)
	}
	must(t, p.m.Arm(0, 0), api.ErrMediumDead)
	p.m.Revive()
	if at, e := p.m.Append([]byte("!")); at != 7 || e != api.OK {
		t.Fatal(at, e)
	}
}
