package timecode_test

import (
	"math"
	"strings"
	"sync"
	"testing"

	"dailies/api"
	"dailies/timecode"
)

// byNumber are the calls that take a rate and a frame's number, each told with its error and whether all else is zero.
func byNumber() map[string]func(r api.Rate, n int) (api.Errno, bool) {
	calls := map[string]func(r api.Rate, n int) (api.Errno, bool){
		"Name": func(r api.Rate, n int) (api.Errno, bool) {
			s, e := timecode.Name(r, n)
			return e, s == ""
		},
		"Dropped": func(r api.Rate, n int) (api.Errno, bool) {
			d, e := timecode.Dropped(r, n)
			return e, d == 0
		},
		"Seconds": func(r api.Rate, n int) (api.Errno, bool) {
			s, e := timecode.Seconds(r, n)
			return e, math.Float64bits(s) == 0
		},
	}
	for _, to := range rates() {
		calls["Convert to "+string(rune('0'+to.rate))] = func(r api.Rate, n int) (api.Errno, bool) {
			m, e := timecode.Convert(r, to.rate, n)
			return e, m == 0
		}
	}
	return calls
}

func TestNoRateIsRefusedAheadOfAllElse(t *testing.T) {
	numbers := append(rates()[0].noFrames(), 0, 1, 1800, 2073599)
	for _, r := range noRates() {
		if n, e := timecode.PerDay(r); n != 0 || e != api.ErrTimecodeRate {
			t.Error("PerDay", r, n, e)
		}
		for _, n := range numbers {
			for name, call := range byNumber() {
				if e, zero := call(r, n); e != api.ErrTimecodeRate || !zero {
					t.Error(name, r, n, e, zero)
				}
			}
			for _, x := range rates() {
				if m, e := timecode.Convert(x.rate, r, n); m != 0 || e != api.ErrTimecodeRate {
					t.Error("Convert to", r, "from", x.rate, n, m, e)
				}
			}
			if m, e := timecode.Convert(r, r, n); m != 0 || e != api.ErrTimecodeRate {
				t.Error("Convert from and to", r, n, m, e)
			}
		}
	}
}

func TestNoFrameOfTheDayIsRefused(t *testing.T) {
	for _, x := range rates() {
		for name, call := range byNumber() {
			for _, n := range x.noFrames() {
				if e, zero := call(x.rate, n); e != api.ErrTimecodeDay || !zero {
					t.Error(name, x.rate, n, e, zero)
				}
			}
			if e, _ := call(x.rate, 0); e != api.OK {
				t.Error(name, x.rate, "of the first frame:", e)
			}
			// What Convert says of the last one hangs on the other rate.
			if e, _ := call(x.rate, x.perDay-1); e != api.OK && !strings.HasPrefix(name, "Convert") {
				t.Error(name, x.rate, "of the last frame:", e)
			}
		}
	}
}

func TestRatesThatLeaveNothingOutDropNothing(t *testing.T) {
	for _, x := range rates() {
		for _, n := range x.someFrames() {
			d, e := timecode.Dropped(x.rate, n)
			if e != api.OK || x.left == 0 && d != 0 {
				t.Error(x.rate, n, d, e)
			}
		}
	}
}

func TestExamplesOfTheChapter(t *testing.T) {
	for _, c := range []struct {
		rate api.Rate
		n    int
		name string
		e    api.Errno
	}{
		{api.Rate25, 91532, "01:01:01:07", api.OK}, {api.Rate25, 2160000, "", api.ErrTimecodeDay},
		{api.Rate30Drop, 1799, "00:00:59;29", api.OK}, {api.Rate30Drop, 1800, "00:01:00;02", api.OK},
		{api.Rate30Drop, 17982, "00:10:00;00", api.OK}, {api.Rate60Drop, 3600, "00:01:00;04", api.OK},
	} {
		if s, e := timecode.Name(c.rate, c.n); s != c.name || e != c.e {
			t.Error(c, s, e)
		}
	}
	for n, want := range map[int]int{1800: 2, 17982: 18} {
		if d, e := timecode.Dropped(api.Rate30Drop, n); d != want || e != api.OK {
			t.Error(n, d, e)
		}
	}
	refused(t, api.Rate30Drop, "00:01:00;01", 9, api.ErrTimecodeDrop)
	refused(t, api.Rate30Drop, "00:01:00:02", 8, api.ErrTimecodeForm)
	refused(t, api.Rate30Drop, "00:1", 4, api.ErrTimecodeForm)
	refused(t, api.Rate30Drop, "24:00:00;00", 0, api.ErrTimecodeDay)
	refused(t, api.Rate30Drop, "00:60:00;00", 3, api.ErrTimecodeForm)
	if s, e := timecode.Seconds(api.Rate30Drop, 30000); s != 1001 || e != api.OK {
		t.Error(s, e)
	}
	if n, e := timecode.Convert(api.Rate24, api.Rate30Drop, 24); n != 29 || e != api.OK {
		t.Error(n, e)
	}
	if n, e := timecode.Convert(api.Rate24, api.Rate30Drop, 2073599); n != 0 || e != api.ErrTimecodeDay {
		t.Error(n, e)
	}
	if n, err := timecode.Number(api.Rate30Drop, "00:10:00;00"); n != 17982 || err != nil {
		t.Error(n, err)
	}
	if n, e := timecode.Convert(api.Rate24, api.Rate25, 48); n != 50 || e != api.OK {
		t.Error(n, e)
	}
}

// P4: nothing is kept from call to call, so many hands at once are told what one is told.
func TestP4ManyHandsAreToldTheSame(t *testing.T) {
	var hands sync.WaitGroup
	for hand := range 8 {
		hands.Go(func() {
			c := chance(hand)
			for range 20000 {
				x := rates()[c.below(7)]
				n := c.below(x.perDay)
				s, e := timecode.Name(x.rate, n)
				m, err := timecode.Number(x.rate, s)
				if e != api.OK || err != nil || m != n {
					t.Error(x.rate, n, s, e, m, err)
					return
				}
			}
		})
	}
	hands.Wait()
}
