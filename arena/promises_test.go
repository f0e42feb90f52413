package arena_test

import (
	"slices"
	"sync"
	"testing"

	"dailies/api"
	"dailies/arena"
)

// chance is a row of numbers that look like chance and are the same each time.
type chance uint64

func (c *chance) next() uint64 {
	*c = *c*6364136223846793005 + 1442695040888963407
	x := uint64(*c)
	return x ^ x>>29 ^ x<<17
}

func (c *chance) below(n int) int { return int(c.next() >> 8 % uint64(n)) }

// number is one from 0 to a bit above the limit, and now and then one that may never be.
func (c *chance) number(most int) int {
	switch c.below(12) {
	case 0:
		return below[c.below(len(below))]
	case 1:
		return huge[c.below(len(huge))]
	case 2:
		return c.below(most + 3)
	}
	return c.below(most/4 + 2)
}

// meter is what the chapter says of an arena, beside the program's.
type meter struct {
	most, given, peak int
}

func (m *meter) give(n, size int) api.Errno {
	e := wants(m.given, n, size, m.most)
	if e == api.OK {
		m.given += n * size
		m.peak = max(m.peak, m.given)
	}
	return e
}

func (m *meter) release(mark int) api.Errno {
	if mark < 0 || mark > m.given {
		return api.ErrArg
	}
	m.given = mark
	return api.OK
}

// filled writes a list and its spare room full of one number.
func filled[T byte | uint16](list []T, with T) []T {
	list = list[:cap(list)]
	for i := range list {
		list[i] = with
	}
	return list
}

// all tells whether a list is full of one number.
func all[T byte | uint16](list []T, with T) bool {
	return !slices.ContainsFunc(list, func(x T) bool { return x != with })
}

// kept are lists that arenas gave, each written full of a number of its own.
type kept struct {
	bytes   [][]byte
	samples [][]uint16
}

func (k *kept) addBytes(b []byte) {
	k.bytes = append(k.bytes, filled(b, byte(len(k.bytes)%251+1)))
}

func (k *kept) addSamples(s []uint16) {
	k.samples = append(k.samples, filled(s, uint16(len(k.samples)%65521+1)))
}

// whole looks whether no list was written into through another one.
func (k *kept) whole(t *testing.T) {
	t.Helper()
	for i, b := range k.bytes {
		if !all(b, byte(i%251+1)) {
			t.Fatal("bytes were given twice: list", i)
		}
	}
	for i, s := range k.samples {
		if !all(s, uint16(i%65521+1)) {
			t.Fatal("samples were given twice: list", i)
		}
	}
}

// step does one thing to an arena, as chance has it, and holds the answer against the meter's.
func step(t *testing.T, c *chance, a *arena.Arena, m *meter, k *kept) {
	t.Helper()
	n := c.number(m.most)
	switch c.below(3) {
	case 0:
		want := m.give(n, 1)
		b, e := a.Bytes(n)
		if e != want || e == api.OK && !noughts(b, n) || e != api.OK && len(b) != 0 {
			t.Fatalf("Bytes(%d): %d of them, %v, not %v", n, len(b), e, want)
		}
		k.addBytes(b)
	case 1:
		want := m.give(n, 2)
		s, e := a.Samples(n)
		if e != want || e == api.OK && !noughts(s, n) || e != api.OK && len(s) != 0 {
			t.Fatalf("Samples(%d): %d of them, %v, not %v", n, len(s), e, want)
		}
		k.addSamples(s)
	case 2:
		want := m.release(n)
		if e := a.Release(n); e != want {
			t.Fatalf("Release(%d): %v, not %v", n, e, want)
		}
	}
	stands(t, a, m.given, m.peak)
	if a.Given() > a.Peak() || a.Peak() > m.most {
		t.Fatal(a.Given(), a.Peak(), m.most)
	}
}

// P11.1, P11.3: arenas of many limits, through many calls, are as the chapter says, and give nothing twice.
func TestP11_1ManyCalls(t *testing.T) {
	c := chance(11)
	var k kept
	for most := range 70 {
		a, m := made(t, most), &meter{most: most}
		for range 80 {
			step(t, &c, a, m, &k)
		}
	}
	k.whole(t)
}

// P11.1: each list is given just where it fits: all pairs of lists of a small arena.
func TestP11_1JustWhereItFits(t *testing.T) {
	for most := range 14 {
		for first := range most + 1 {
			for n := -2; n < most+4; n++ {
				a, b := made(t, most), made(t, most)
				bytesOf(t, a, first)
				bytesOf(t, b, first)
				if _, e := a.Bytes(n); e != wants(first, n, 1, most) {
					t.Fatal(most, first, n, e)
				}
				if _, e := b.Samples(n); e != wants(first, n, 2, most) {
					t.Fatal(most, first, n, e)
				}
			}
		}
	}
}

// answers are what an arena says to lists of all sizes, each asked where nothing else is given besides.
func answers(t *testing.T, a *arena.Arena, most int) []api.Errno {
	t.Helper()
	var told []api.Errno
	mark := a.Mark()
	for n := range most + 2 {
		_, e := a.Bytes(n)
		told = append(told, e)
		releases(t, a, mark)
		_, e = a.Samples(n)
		told = append(told, e)
		releases(t, a, mark)
	}
	return told
}

// P11.2: behind a Release an arena gives just what it would have given at the mark.
func TestP11_2GivenAgain(t *testing.T) {
	const most = 15
	for first := range most + 1 {
		fresh := made(t, most)
		bytesOf(t, fresh, first)
		want := answers(t, fresh, most)
		for more := range most - first + 1 {
			a := made(t, most)
			bytesOf(t, a, first)
			mark := a.Mark()
			for range 3 {
				bytesOf(t, a, more%2)
				samplesOf(t, a, more/2)
				refusesBytes(t, a, most-a.Given()+1, api.ErrLimit)
				releases(t, a, mark)
				if told := answers(t, a, most); !slices.Equal(told, want) {
					t.Fatal(first, more, told, want)
				}
			}
		}
	}
}

// P11.2: marks within marks, gone back to in any order that may be.
func TestP11_2MarksWithinMarks(t *testing.T) {
	a := made(t, 60)
	var marks []int
	for n := range 6 {
		marks = append(marks, a.Mark())
		bytesOf(t, a, n)
		samplesOf(t, a, n)
	}
	if !slices.Equal(marks, []int{0, 0, 3, 9, 18, 30}) {
		t.Fatal(marks)
	}
	releases(t, a, marks[4])
	refusesRelease(t, a, marks[5])
	releases(t, a, marks[2])
	refusesRelease(t, a, marks[3])
	refusesBytes(t, a, 58, api.ErrLimit)
	bytesOf(t, a, 57)
	releases(t, a, marks[3]) // a mark is a number: it goes again, where so many are given again
	samplesOf(t, a, 25)
	refusesSamples(t, a, 1, api.ErrLimit)
	stands(t, a, 59, 60)
}

// A2, P11.3: what comes behind a Release is new memory and all noughts, however often; the old lists stay as they are, and whose they are.
func TestP11_3BehindARelease(t *testing.T) {
	var k kept
	for _, n := range []int{1, 2, 3, 8, 31, 64, 1000, 4096, 40000} {
		a := made(t, 3*n)
		for range 20 {
			k.addBytes(bytesOf(t, a, n))
			mark := a.Mark()
			k.addSamples(samplesOf(t, a, n))
			releases(t, a, mark)
			k.addSamples(samplesOf(t, a, n))
			releases(t, a, mark)
			k.addBytes(bytesOf(t, a, 2*n))
			releases(t, a, 0)
		}
	}
	k.whole(t)
}

// A2, P11.3: an arena hands out each list with no room that another one has: appending to one leaves the next ones alone.
func TestP11_3SpareRoom(t *testing.T) {
	a := made(t, 400)
	var bytes [][]byte
	var samples [][]uint16
	for n := range 10 {
		bytes = append(bytes, bytesOf(t, a, n))
		samples = append(samples, samplesOf(t, a, n))
	}
	for n := range 10 {
		_ = append(bytes[n], 1, 2, 3, 4, 5, 6, 7, 8, 9)
		_ = append(samples[n], 1, 2, 3, 4, 5, 6, 7, 8, 9)
	}
	for n := range 10 {
		if !all(bytes[n], 0) || !all(samples[n], 0) {
			t.Fatal(n, bytes[n], samples[n])
		}
	}
}

// P4, P11.3: arenas of the same limit, asked in turn: what one gave and released is nothing to the other.
func TestP11_3ArenasBesideOneAnother(t *testing.T) {
	var k kept
	a, b := made(t, 20), made(t, 20)
	k.addBytes(bytesOf(t, a, 20))
	stands(t, b, 0, 0)
	k.addSamples(samplesOf(t, b, 3))
	stands(t, a, 20, 20)
	stands(t, b, 6, 6)
	releases(t, a, 4)
	stands(t, b, 6, 6)
	k.addBytes(bytesOf(t, b, 14))
	k.addSamples(samplesOf(t, a, 8))
	refusesBytes(t, b, 1, api.ErrLimit)
	releases(t, b, 0)
	stands(t, a, 20, 20)
	refusesBytes(t, a, 1, api.ErrLimit)
	k.addBytes(bytesOf(t, b, 20))
	k.whole(t)

	c := chance(113)
	arenas, meters := make([]*arena.Arena, 9), make([]meter, 9)
	for i := range arenas {
		meters[i].most = 5 * i
		arenas[i] = made(t, 5*i)
	}
	for range 2000 {
		i := c.below(len(arenas))
		step(t, &c, arenas[i], &meters[i], &k)
	}
	k.whole(t)
}

// P4: many hands, an arena each, at the same time.
func TestP4ArenasOfManyHands(t *testing.T) {
	wrong := make([]int, 8)
	var hands sync.WaitGroup
	for hand := range wrong {
		hands.Go(func() {
			a, e := arena.New(100 + hand)
			if e != api.OK {
				wrong[hand]++
				return
			}
			for round := range 200 {
				b, e := a.Bytes(hand + 1)
				s, f := a.Samples(round % 40)
				if e != api.OK || f != api.OK || !noughts(b, hand+1) || !noughts(s, round%40) {
					wrong[hand]++
				}
				filled(b, byte(hand+1))
				filled(s, uint16(hand+1))
				if _, e := a.Bytes(100 - 2*(round%40)); e != api.ErrLimit || a.Given() != hand+1+2*(round%40) {
					wrong[hand]++
				}
				if a.Release(0) != api.OK || !all(b, byte(hand+1)) || !all(s, uint16(hand+1)) {
					wrong[hand]++
				}
			}
			if a.Peak() != hand+1+2*39 {
				wrong[hand]++
			}
		})
	}
	hands.Wait()
	for hand, n := range wrong {
		if n != 0 {
			t.Error(hand, n)
		}
	}
}
