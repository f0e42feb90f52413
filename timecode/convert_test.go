package timecode_test

import (
	"fmt"
	"math"
	"math/big"
	"testing"

	"dailies/api"
	"dailies/timecode"
)

// eachPair runs a test of every two rates.
func eachPair(t *testing.T, test func(t *testing.T, x, y said)) {
	for _, x := range rates() {
		for _, y := range rates() {
			t.Run(fmt.Sprint("from ", x.rate, " to ", y.rate), func(t *testing.T) {
				test(t, x, y)
			})
		}
	}
}

// moment is when a frame begins, as a fraction of whole numbers.
func (x said) moment(n int) *big.Rat {
	return new(big.Rat).Mul(big.NewRat(int64(n), 1), big.NewRat(x.den, x.num))
}

// goesOn is the number of the frame that goes on at a moment, whether the day has it or not.
func (x said) goesOn(at *big.Rat) int {
	frames := new(big.Rat).Mul(at, big.NewRat(x.num, x.den))
	return int(new(big.Int).Div(frames.Num(), frames.Denom()).Int64())
}

// converts holds what Convert says against the moments at which frames begin.
func converts(t *testing.T, x, y said, n int) {
	t.Helper()
	want, wantE := y.goesOn(x.moment(n)), api.OK
	if want >= y.perDay {
		want, wantE = 0, api.ErrTimecodeDay
	}
	if m, e := timecode.Convert(x.rate, y.rate, n); m != want || e != wantE {
		t.Fatalf("Convert of %d is %d, %d, and not %d, %d", n, m, e, want, wantE)
	}
}

// lastThere is the last frame whose conversion another rate's day has.
func lastThere(x, y said) int {
	low, high := 0, x.perDay
	for low+1 < high {
		if mid := (low + high) / 2; y.goesOn(x.moment(mid)) < y.perDay {
			low = mid
		} else {
			high = mid
		}
	}
	return low
}

func TestConvertAboutTheEdges(t *testing.T) {
	eachPair(t, func(t *testing.T, x, y said) {
		for n := range 5000 {
			converts(t, x, y, n)
			converts(t, x, y, x.perDay-1-n)
		}
		last := lastThere(x, y)
		for n := max(last-100, 0); n < min(last+100, x.perDay); n++ {
			converts(t, x, y, n)
		}
		for _, n := range x.someFrames() {
			converts(t, x, y, n)
		}
		c := chance(int(x.rate)*8 + int(y.rate))
		for range 2000 {
			converts(t, x, y, c.below(x.perDay))
		}
	})
}

func TestConvertGoesBeyondADay(t *testing.T) {
	for _, c := range []struct {
		from, to api.Rate
		n, want  int
		e        api.Errno
	}{
		// Rates that leave names out have fewer frames in a day of names than there are in a day of the clock.
		{1, 4, 2073597, 2589406, api.OK}, {1, 4, 2073598, 0, api.ErrTimecodeDay}, {1, 4, 2073599, 0, api.ErrTimecodeDay},
		{6, 7, 5183994, 5178815, api.OK}, {6, 7, 5183995, 0, api.ErrTimecodeDay}, {6, 7, 5183999, 0, api.ErrTimecodeDay},
		{3, 4, 2591997, 2589407, api.OK}, {3, 4, 2591998, 0, api.ErrTimecodeDay},
		{4, 3, 2589407, 2591996, api.OK}, {4, 1, 2589407, 2073597, api.OK}, {7, 6, 5178815, 5183993, api.OK},
		{4, 7, 2589407, 5178814, api.OK}, {7, 4, 5178815, 2589407, api.OK},
		{1, 2, 2073599, 2159998, api.OK}, {2, 1, 2159999, 2073599, api.OK}, {6, 1, 5183999, 2073599, api.OK},
		{1, 2, 48, 50, api.OK}, {1, 4, 24, 29, api.OK}, {4, 3, 30000, 30030, api.OK}, {4, 3, 29999, 30028, api.OK},
	} {
		if m, e := timecode.Convert(c.from, c.to, c.n); m != c.want || e != c.e {
			t.Error(c, m, e)
		}
	}
	for _, x := range rates() {
		for _, y := range rates() {
			if n, e := timecode.Convert(x.rate, y.rate, 0); n != 0 || e != api.OK {
				t.Error("of the first frame:", x.rate, y.rate, n, e)
			}
		}
	}
}

// Every frame of every rate to every rate: it is the one that goes on, it never falls, and it comes back.
func TestP18_5ConvertOfEveryFrame(t *testing.T) {
	eachPair(t, func(t *testing.T, x, y said) {
		up, down := x.den*y.num, x.num*y.den // how many frames of y one of x is, as a fraction
		was, beyond := 0, false
		for n := range x.perDay {
			m, e := timecode.Convert(x.rate, y.rate, n)
			if e == api.ErrTimecodeDay && m == 0 && int64(n)*up >= int64(y.perDay)*down {
				beyond = true
				continue
			}
			if e != api.OK || beyond || m < was || int64(m)*down > int64(n)*up || int64(m+1)*down <= int64(n)*up {
				t.Fatal(n, m, e, was, beyond)
			}
			if x.rate == y.rate && m != n {
				t.Fatal(n, "of the same rate is", m)
			}
			if was = m; up < down {
				continue
			}
			if back, e := timecode.Convert(y.rate, x.rate, m); e == api.OK && back != n && back != n-1 || e != api.OK && e != api.ErrTimecodeDay {
				t.Fatal(n, "there is", m, "and back is", back, e)
			}
		}
	})
}

// One division of whole numbers that a float64 has exactly tells the float64 next to the fraction.
func TestSecondsAreTheFloatNextToTheFraction(t *testing.T) {
	eachRate(t, func(t *testing.T, x said) {
		same := func(n int) {
			want, _ := x.moment(n).Float64()
			if s, e := timecode.Seconds(x.rate, n); math.Float64bits(s) != math.Float64bits(want) || e != api.OK {
				t.Fatal(n, s, e, want)
			}
		}
		for n := range 20000 {
			same(n)
			same(x.perDay - 1 - n)
		}
		c := chance(x.rate)
		for range 50000 {
			same(c.below(x.perDay))
		}
	})
}

func TestSecondsOfEveryFrame(t *testing.T) {
	eachRate(t, func(t *testing.T, x said) {
		was := -1.0
		for n := range x.perDay {
			s, e := timecode.Seconds(x.rate, n)
			if e != api.OK || s != float64(int64(n)*x.den)/float64(x.num) || s <= was {
				t.Fatal(n, s, e, was)
			}
			was = s
		}
	})
}

func TestSecondsOfSomeFrames(t *testing.T) {
	for _, c := range []struct {
		rate api.Rate
		n    int
		want float64
	}{
		{1, 0, 0}, {1, 24, 1}, {1, 12, 0.5}, {2, 2159999, 86399.96}, {3, 45, 1.5}, {4, 0, 0}, {4, 30000, 1001}, {4, 15000, 500.5},
		{5, 1, 0.02}, {6, 90, 1.5}, {7, 60000, 1001}, {7, 30000, 500.5}, {7, 3600, 60.06}, {4, 1800, 60.06}, {4, 17982, 599.9994},
	} {
		if s, e := timecode.Seconds(c.rate, c.n); s != c.want || e != api.OK {
			t.Error(c, s, e)
		}
	}
}
