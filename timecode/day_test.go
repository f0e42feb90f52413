package timecode_test

import (
	"fmt"
	"math"
	"testing"

	"dailies/api"
	"dailies/timecode"
)

// eachRate runs a test of each rate.
func eachRate(t *testing.T, test func(t *testing.T, x said)) {
	for _, x := range rates() {
		t.Run(fmt.Sprint("rate ", x.rate), func(t *testing.T) {
			test(t, x)
		})
	}
}

func TestPerDayIsTheChaptersNumber(t *testing.T) {
	for _, x := range rates() {
		if n, e := timecode.PerDay(x.rate); n != x.perDay || e != api.OK {
			t.Error(x.rate, n, e)
		}
		if x.left == 0 && x.perDay != 86400*x.count {
			t.Error(x.rate, "is not written down right")
		}
	}
}

// Every name of every rate's day: P18.1 to P18.3, and each name that is left out.
func TestEveryNameOfADay(t *testing.T) {
	eachRate(t, func(t *testing.T, x said) {
		n, left, was := 0, 0, ""
		for c := range x.names() {
			if c.left {
				refused(t, x.rate, c.text, 9, api.ErrTimecodeDrop)
				left++
				continue
			}
			if s, e := timecode.Name(x.rate, n); s != c.text || e != api.OK {
				t.Fatalf("Name of %d is %q, %d, and not %q", n, s, e, c.text)
			}
			if m, err := timecode.Number(x.rate, c.text); m != n || err != nil {
				t.Fatalf("Number of %s is %d, %v, and not %d", c.text, m, err, n)
			}
			d, e := timecode.Dropped(x.rate, n)
			if d != left || e != api.OK {
				t.Fatalf("Dropped of %d is %d, %d, and not %d", n, d, e, left)
			}
			if n+d != x.count*(3600*c.hour+60*c.minute+c.second)+c.frame {
				t.Fatalf("P18.3: %d and %d are not the place of %s", n, d, c.text)
			}
			if c.text <= was {
				t.Fatalf("P18.2: %s does not stand behind %s", c.text, was)
			}
			n, was = n+1, c.text
		}
		if perDay, e := timecode.PerDay(x.rate); perDay != n || e != api.OK {
			t.Errorf("PerDay is %d, %d, but %d names are given", perDay, e, n)
		}
	})
}

func TestP18_2NamesRiseAsNumbersDo(t *testing.T) {
	c := chance(182)
	for _, x := range rates() {
		for range 5000 {
			a, b := c.below(x.perDay), c.below(x.perDay)
			s, e := timecode.Name(x.rate, a)
			u, f := timecode.Name(x.rate, b)
			if e != api.OK || f != api.OK || len(s) != 11 || len(u) != 11 {
				t.Fatal(x.rate, a, b, s, u, e, f)
			}
			if (s < u) != (a < b) || (s == u) != (a == b) {
				t.Fatal(x.rate, a, s, b, u)
			}
		}
	}
}

// The clock is taken as the chapter words it, and not by the number.
func TestP18_4NamesKeepUpWithTheClock(t *testing.T) {
	for _, x := range dropping() {
		t.Run(fmt.Sprint("rate ", x.rate), func(t *testing.T) {
			most := 0.0
			for n := range x.perDay {
				name, e := timecode.Name(x.rate, n)
				seconds, f := timecode.Seconds(x.rate, n)
				if e != api.OK || f != api.OK {
					t.Fatal(n, e, f)
				}
				clock := float64(3600*digits(name, 0)+60*digits(name, 3)+digits(name, 6)) + float64(digits(name, 9))/float64(x.count)
				if most = max(most, math.Abs(clock-seconds)); most > 0.15 {
					t.Fatal(n, name, seconds)
				}
			}
			// A day comes near to the bound; one that does not leaves out other names.
			if most < 0.14 {
				t.Error("never more than", most)
			}
		})
	}
}

// digits is the number of the two at a place, which are digits.
func digits(s string, at int) int { return 10*int(s[at]-'0') + int(s[at+1]-'0') }

func TestFramesAboutTheEdges(t *testing.T) {
	for _, c := range []struct {
		rate    api.Rate
		n       int
		name    string
		dropped int
	}{
		{1, 0, "00:00:00:00", 0}, {1, 23, "00:00:00:23", 0}, {1, 24, "00:00:01:00", 0}, {1, 2073599, "23:59:59:23", 0},
		{2, 24, "00:00:00:24", 0}, {2, 25, "00:00:01:00", 0}, {2, 1500, "00:01:00:00", 0}, {2, 2159999, "23:59:59:24", 0},
		{3, 1800, "00:01:00:00", 0}, {3, 1801, "00:01:00:01", 0}, {3, 2591999, "23:59:59:29", 0},
		{4, 0, "00:00:00;00", 0}, {4, 1, "00:00:00;01", 0}, {4, 2, "00:00:00;02", 0},
		{4, 1799, "00:00:59;29", 0}, {4, 1800, "00:01:00;02", 2}, {4, 1801, "00:01:00;03", 2},
		{4, 3597, "00:01:59;29", 2}, {4, 3598, "00:02:00;02", 4},
		{4, 16183, "00:08:59;29", 16}, {4, 16184, "00:09:00;02", 18},
		{4, 17981, "00:09:59;29", 18}, {4, 17982, "00:10:00;00", 18}, {4, 17983, "00:10:00;01", 18},
		{4, 19781, "00:10:59;29", 18}, {4, 19782, "00:11:00;02", 20},
		{4, 107891, "00:59:59;29", 108}, {4, 107892, "01:00:00;00", 108},
		{4, 2587609, "23:58:59;29", 2590}, {4, 2587610, "23:59:00;02", 2592}, {4, 2589407, "23:59:59;29", 2592},
		{5, 3000, "00:01:00:00", 0}, {5, 4319999, "23:59:59:49", 0},
		{6, 3600, "00:01:00:00", 0}, {6, 5183999, "23:59:59:59", 0},
		{7, 3, "00:00:00;03", 0}, {7, 3599, "00:00:59;59", 0}, {7, 3600, "00:01:00;04", 4},
		{7, 7195, "00:01:59;59", 4}, {7, 7196, "00:02:00;04", 8},
		{7, 35963, "00:09:59;59", 36}, {7, 35964, "00:10:00;00", 36}, {7, 35967, "00:10:00;03", 36},
		{7, 39563, "00:10:59;59", 36}, {7, 39564, "00:11:00;04", 40},
		{7, 5175219, "23:58:59;59", 5180}, {7, 5175220, "23:59:00;04", 5184}, {7, 5178815, "23:59:59;59", 5184},
	} {
		if s, e := timecode.Name(c.rate, c.n); s != c.name || e != api.OK {
			t.Error(c, s, e)
		}
		if n, err := timecode.Number(c.rate, c.name); n != c.n || err != nil {
			t.Error(c, n, err)
		}
		if d, e := timecode.Dropped(c.rate, c.n); d != c.dropped || e != api.OK {
			t.Error(c, d, e)
		}
	}
}
