package arena_test

import (
	"math"
	"math/big"
	"runtime"
	"slices"
	"testing"

	"dailies/api"
	"dailies/arena"
)

// below are numbers that are below 0; twice some of them, in 64 bits, is 0 or more.
var below = []int{-1, -2, -3, -10, -1 << 30, -1 << 31, -1 << 32, -1 << 61, -1<<62 + 1, -1 << 62, -1<<62 - 1, -1<<62 - 5, math.MinInt + 1, math.MinInt}

// huge are numbers that no arena has; twice some of them, in 32 or 64 bits, is small or below 0.
var huge = []int{1<<30 + 1, 1<<31 - 1, 1 << 31, 1<<31 + 1, 1<<32 - 1, 1 << 32, 1<<32 + 1, 1 << 61, 1<<62 - 1, 1 << 62, 1<<62 + 1, 1<<62 + 4, math.MaxInt - 4, math.MaxInt - 1, math.MaxInt}

// made is an arena that must come.
func made(t *testing.T, most int) *arena.Arena {
	t.Helper()
	a, e := arena.New(most)
	if a == nil || e != api.OK {
		t.Fatalf("New(%d): %v, %v", most, a, e)
	}
	return a
}

// stands holds what an arena tells against what it should.
func stands(t *testing.T, a *arena.Arena, given, peak int) {
	t.Helper()
	if a.Given() != given || a.Mark() != given || a.Peak() != peak {
		t.Fatalf("Given %d, Mark %d, Peak %d; not %d and %d", a.Given(), a.Mark(), a.Peak(), given, peak)
	}
}

// noughts tells whether a list is so many noughts, with nothing but noughts in its spare room.
func noughts[T byte | uint16](list []T, n int) bool {
	return len(list) == n && !slices.ContainsFunc(list[:cap(list)], func(x T) bool { return x != 0 })
}

// bytesOf are bytes that must come.
func bytesOf(t *testing.T, a *arena.Arena, n int) []byte {
	t.Helper()
	b, e := a.Bytes(n)
	if e != api.OK || !noughts(b, n) {
		t.Fatalf("Bytes(%d): %d of them, %v", n, len(b), e)
	}
	return b
}

// samplesOf are samples that must come.
func samplesOf(t *testing.T, a *arena.Arena, n int) []uint16 {
	t.Helper()
	s, e := a.Samples(n)
	if e != api.OK || !noughts(s, n) {
		t.Fatalf("Samples(%d): %d of them, %v", n, len(s), e)
	}
	return s
}

// refusesBytes asks for bytes that must not come, and looks whether all stands as it stood.
func refusesBytes(t *testing.T, a *arena.Arena, n int, want api.Errno) {
	t.Helper()
	given, peak := a.Given(), a.Peak()
	if b, e := a.Bytes(n); len(b) != 0 || cap(b) != 0 || e != want {
		t.Fatalf("Bytes(%d): %d of them, %v, not %v", n, len(b), e, want)
	}
	stands(t, a, given, peak)
}

// refusesSamples asks for samples that must not come, and looks whether all stands as it stood.
func refusesSamples(t *testing.T, a *arena.Arena, n int, want api.Errno) {
	t.Helper()
	given, peak := a.Given(), a.Peak()
	if s, e := a.Samples(n); len(s) != 0 || cap(s) != 0 || e != want {
		t.Fatalf("Samples(%d): %d of them, %v, not %v", n, len(s), e, want)
	}
	stands(t, a, given, peak)
}

// releases goes back to a mark.
func releases(t *testing.T, a *arena.Arena, mark int) {
	t.Helper()
	peak := a.Peak()
	if e := a.Release(mark); e != api.OK {
		t.Fatalf("Release(%d): %v", mark, e)
	}
	stands(t, a, mark, peak)
}

// refusesRelease asks for a mark that must be refused, and looks whether all stands as it stood.
func refusesRelease(t *testing.T, a *arena.Arena, mark int) {
	t.Helper()
	given, peak := a.Given(), a.Peak()
	if e := a.Release(mark); e != api.ErrArg {
		t.Fatalf("Release(%d) of %d: %v", mark, given, e)
	}
	stands(t, a, given, peak)
}

// over tells, by numbers that never go round, whether given bytes and n items of a size are more than a limit.
func over(given, n, size, most int) bool {
	sum := big.NewInt(int64(n))
	sum.Mul(sum, big.NewInt(int64(size)))
	sum.Add(sum, big.NewInt(int64(given)))
	return sum.Cmp(big.NewInt(int64(most))) > 0
}

// wants is what a list of n items must be answered with.
func wants(given, n, size, most int) api.Errno {
	switch {
	case n < 0:
		return api.ErrArg
	case over(given, n, size, most):
		return api.ErrLimit
	}
	return api.OK
}

// A1: the limits that may be.
func TestA1New(t *testing.T) {
	for _, most := range []int{0, 1, 2, 3, 10, 1 << 20, 1<<30 - 1, 1 << 30} {
		stands(t, made(t, most), 0, 0)
	}
	if api.MaxMeter != 1<<30 {
		t.Error(api.MaxMeter)
	}
}

// A1: the limits that may not be; there is no arena then.
func TestA1NewRefused(t *testing.T) {
	for _, most := range slices.Concat(below, huge) {
		if a, e := arena.New(most); a != nil || e != api.ErrArg {
			t.Errorf("New(%d): %v, %v", most, a, e)
		}
	}
}

// A1, A2: an arena of each small limit gives lists up to it, at once or one by one, and nothing more.
func TestA1TheLimitIsKept(t *testing.T) {
	for most := range 40 {
		for n := range most + 3 {
			if n <= most {
				bytesOf(t, made(t, most), n)
			} else {
				refusesBytes(t, made(t, most), n, api.ErrLimit)
			}
			if 2*n <= most {
				samplesOf(t, made(t, most), n)
			} else {
				refusesSamples(t, made(t, most), n, api.ErrLimit)
			}
		}
		a := made(t, most)
		for k := range most {
			bytesOf(t, a, 1)
			stands(t, a, k+1, k+1)
		}
		refusesBytes(t, a, 1, api.ErrLimit)
		refusesSamples(t, a, 1, api.ErrLimit)
		b := made(t, most)
		for k := range most / 2 {
			samplesOf(t, b, 1)
			stands(t, b, 2*k+2, 2*k+2)
		}
		refusesSamples(t, b, 1, api.ErrLimit)
		bytesOf(t, b, most%2)
		stands(t, b, most, most)
	}
}

// A1, A2: all that the greatest limit has, as one list of bytes, and as one of samples. Both are held to the end and hardly read: memory that nobody has touched yet costs nothing.
func TestA2AllOfTheGreatestLimit(t *testing.T) {
	a, c := made(t, 1<<30), made(t, 1<<30)
	refusesBytes(t, a, 1<<30+1, api.ErrLimit)
	b, e := a.Bytes(1 << 30)
	if len(b) != 1<<30 || e != api.OK || b[0] != 0 || b[1<<30-1] != 0 {
		t.Fatal(len(b), e)
	}
	refusesSamples(t, c, 1<<29+1, api.ErrLimit)
	s, e := c.Samples(1 << 29)
	if len(s) != 1<<29 || e != api.OK || s[0] != 0 || s[1<<29-1] != 0 {
		t.Fatal(len(s), e)
	}
	for _, x := range []*arena.Arena{a, c} {
		stands(t, x, 1<<30, 1<<30)
		refusesBytes(t, x, 1, api.ErrLimit)
		refusesSamples(t, x, 1, api.ErrLimit)
		bytesOf(t, x, 0)
		samplesOf(t, x, 0)
		releases(t, x, 1<<30-3)
		refusesSamples(t, x, 2, api.ErrLimit)
		samplesOf(t, x, 1)
		bytesOf(t, x, 1)
		stands(t, x, 1<<30, 1<<30)
	}
	runtime.KeepAlive(b)
	runtime.KeepAlive(s)
}

// A1, A2: one byte below the greatest limit is a limit of its own.
func TestA2OneBelowTheGreatestLimit(t *testing.T) {
	a := made(t, 1<<30-1)
	refusesSamples(t, a, 1<<29, api.ErrLimit)
	refusesBytes(t, a, 1<<30, api.ErrLimit)
	bytesOf(t, a, 1)
	refusesBytes(t, a, 1<<30-1, api.ErrLimit)
}

// A2: numbers below 0 are told, whatever is left, and also where nothing is.
func TestA2Below(t *testing.T) {
	for _, most := range []int{0, 1, 7, 1 << 30} {
		for _, first := range []int{0, 1, 7} {
			a := made(t, most)
			if first <= most {
				bytesOf(t, a, first)
			}
			for _, n := range below {
				refusesBytes(t, a, n, api.ErrArg)
				refusesSamples(t, a, n, api.ErrArg)
			}
		}
	}
}

// A2: numbers however great are above the limit, whatever twice of them would be in so many bits.
func TestA2Huge(t *testing.T) {
	for _, most := range []int{0, 1, 7, 8, 1 << 30} {
		for _, first := range []int{0, 1, 7} {
			a := made(t, most)
			if first <= most {
				bytesOf(t, a, first)
			}
			for _, n := range huge {
				refusesBytes(t, a, n, api.ErrLimit)
				refusesSamples(t, a, n, api.ErrLimit)
			}
		}
	}
}

// A2: at each number of bytes that are given, lists of 0, of just what is left, and of one more.
func TestA2JustWhatIsLeft(t *testing.T) {
	const most = 21
	for given := range most + 1 {
		left := most - given
		fresh := func() *arena.Arena {
			a := made(t, most)
			bytesOf(t, a, given)
			return a
		}
		a := fresh()
		bytesOf(t, a, 0)
		samplesOf(t, a, 0)
		stands(t, a, given, given)
		refusesBytes(t, a, left+1, api.ErrLimit)
		refusesSamples(t, a, left/2+1, api.ErrLimit)
		bytesOf(t, a, left)
		stands(t, a, most, most)
		refusesBytes(t, a, 1, api.ErrLimit)
		b := fresh()
		samplesOf(t, b, left/2)
		stands(t, b, most-left%2, most-left%2)
		refusesSamples(t, b, 1, api.ErrLimit)
	}
}

// A2: where one byte is left there is room for a byte and for no sample.
func TestA2OneByteIsLeft(t *testing.T) {
	a := made(t, 9)
	samplesOf(t, a, 4)
	stands(t, a, 8, 8)
	refusesSamples(t, a, 1, api.ErrLimit)
	samplesOf(t, a, 0)
	bytesOf(t, a, 1)
	stands(t, a, 9, 9)
	refusesBytes(t, a, 1, api.ErrLimit)
	samplesOf(t, a, 0)

	one := made(t, 1)
	refusesSamples(t, one, 1, api.ErrLimit)
	bytesOf(t, one, 1)

	b := made(t, 8)
	bytesOf(t, b, 3)
	refusesSamples(t, b, 3, api.ErrLimit)
	samplesOf(t, b, 2)
	stands(t, b, 7, 7)
	refusesSamples(t, b, 1, api.ErrLimit)
	bytesOf(t, b, 1)
	refusesBytes(t, b, 1, api.ErrLimit)
}

// A3: Given and Mark tell what is given, Peak what was most; asking changes nothing.
func TestA3GivenAndPeak(t *testing.T) {
	a := made(t, 100)
	stands(t, a, 0, 0)
	bytesOf(t, a, 30)
	stands(t, a, 30, 30)
	samplesOf(t, a, 20)
	stands(t, a, 70, 70)
	releases(t, a, 10)
	stands(t, a, 10, 70)
	bytesOf(t, a, 59)
	stands(t, a, 69, 70)
	bytesOf(t, a, 1)
	stands(t, a, 70, 70)
	bytesOf(t, a, 1)
	stands(t, a, 71, 71)
	releases(t, a, 0)
	stands(t, a, 0, 71)
	samplesOf(t, a, 50)
	stands(t, a, 100, 100)
	releases(t, a, 0)
	for range 3 {
		stands(t, a, 0, 100)
	}
}

// A4: marks from 0 to Given are taken, all others refused; again and again.
func TestA4Release(t *testing.T) {
	a := made(t, 12)
	for range 3 {
		bytesOf(t, a, 12)
		for given := 12; given >= 0; given-- {
			refusesRelease(t, a, -1)
			refusesRelease(t, a, given+1)
			releases(t, a, given) // to Given: nothing goes back
			releases(t, a, given)
			if given > 0 {
				releases(t, a, given-1)
				refusesRelease(t, a, given)
			}
		}
		stands(t, a, 0, 12)
		releases(t, a, 0)
		refusesRelease(t, a, 1)
		refusesRelease(t, a, 12)
		refusesRelease(t, a, 13)
	}
}

// A4: each mark of each number that is given, and marks far off.
func TestA4ReleaseToEach(t *testing.T) {
	for given := range 16 {
		for mark := -3; mark < 20; mark++ {
			a := made(t, 16)
			bytesOf(t, a, given%2)
			samplesOf(t, a, given/2)
			if mark < 0 || mark > given {
				refusesRelease(t, a, mark)
			} else {
				releases(t, a, mark)
			}
		}
		a := made(t, 16)
		bytesOf(t, a, given)
		for _, mark := range slices.Concat(below, huge) {
			refusesRelease(t, a, mark)
		}
	}
}

// P1, P2: nil is told ahead of all else, and nothing panics.
func TestP1Nil(t *testing.T) {
	var a *arena.Arena
	for _, n := range slices.Concat(below, []int{0, 1, 2, 10, 1 << 30}, huge) {
		if b, e := a.Bytes(n); len(b) != 0 || e != api.ErrArg {
			t.Errorf("Bytes(%d): %v, %v", n, len(b), e)
		}
		if s, e := a.Samples(n); len(s) != 0 || e != api.ErrArg {
			t.Errorf("Samples(%d): %v, %v", n, len(s), e)
		}
		if e := a.Release(n); e != api.ErrArg {
			t.Errorf("Release(%d): %v", n, e)
		}
		stands(t, a, 0, 0)
	}
}

func TestExamples(t *testing.T) {
	a := made(t, 10)
	bytesOf(t, a, 4)
	samplesOf(t, a, 3)
	stands(t, a, 10, 10)
	refusesBytes(t, a, 1, api.ErrLimit)
	samplesOf(t, a, 0)
	bytesOf(t, a, 0)
	refusesBytes(t, a, -1, api.ErrArg)
	releases(t, a, 4)
	stands(t, a, 4, 10)
	refusesRelease(t, a, 5)
	samplesOf(t, a, 3)
	refusesSamples(t, a, 1, api.ErrLimit)

	none := made(t, 0)
	bytesOf(t, none, 0)
	refusesBytes(t, none, 1, api.ErrLimit)

	for _, most := range []int{-1, 1<<30 + 1} {
		if a, e := arena.New(most); a != nil || e != api.ErrArg {
			t.Errorf("New(%d): %v, %v", most, a, e)
		}
	}
	b := made(t, 10)
	refusesSamples(t, b, 1<<62, api.ErrLimit)
	refusesSamples(t, b, 1<<63-1, api.ErrLimit)
}
