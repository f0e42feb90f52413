package timecode_test

import (
	"errors"
	"fmt"
	"iter"
	"math"
	"strconv"
	"testing"

	"dailies/api"
	"dailies/timecode"
)

// said is a rate as the chapter's words have it, apart from the program.
type said struct {
	rate     api.Rate
	count    int
	num, den int64
	left     int
	perDay   int
}

// rates are all that are rates, with the numbers that the chapter writes out.
func rates() []said {
	return []said{
		{1, 24, 24, 1, 0, 2073600},
		{2, 25, 25, 1, 0, 2160000},
		{3, 30, 30, 1, 0, 2592000},
		{4, 30, 30000, 1001, 2, 2589408},
		{5, 50, 50, 1, 0, 4320000},
		{6, 60, 60, 1, 0, 5184000},
		{7, 60, 60000, 1001, 4, 5178816},
	}
}

// dropping are the rates that leave names out.
func dropping() []said { return []said{rates()[3], rates()[6]} }

// noRates are numbers that are none; some would be one, if a part of their bits were taken.
func noRates() []api.Rate {
	return []api.Rate{0, 8, -1, -2, -4, -7, -8, 9, 24, 25, 30, 50, 60, 255, 256, 257, 260, 1<<16 + 4, 1 << 31, 1<<32 + 1, 1<<32 + 7, -1<<32 + 4, 1<<62 + 2, math.MinInt32, math.MaxInt32, math.MaxInt - 1, math.MaxInt, math.MinInt + 4, math.MinInt}
}

// noFrames are numbers that no frame of this rate's day has.
func (x said) noFrames() []int {
	list := []int{-1, -2, -x.count, -x.perDay, -x.perDay - 1, x.perDay, x.perDay + 1, 2 * x.perDay, math.MinInt32, math.MinInt, math.MinInt + 1, math.MaxInt32, math.MaxInt - 1, math.MaxInt}
	// These would be frames, if numbers wrapped round somewhere on the way.
	return append(list, 1<<32, 1<<32+1, -1<<32+1, 1<<48+5, 1<<58, math.MaxInt/1001, math.MaxInt/1001+1, math.MaxInt/60060000, math.MaxInt/60060000+1, math.MinInt/1001, math.MinInt/60060000)
}

// someFrames are a few frames of a day, its edges among them.
func (x said) someFrames() []int {
	list := []int{0, 1, x.perDay - 2, x.perDay - 1}
	for _, n := range []int{60 * x.count, 600 * x.count, 600*x.count - 9*x.left, 3600 * x.count, x.perDay / 2} {
		list = append(list, n-1, n, n+1)
	}
	return list
}

// drops tells whether the minute of this number leaves out names.
func (x said) drops(minute int) bool {
	switch minute {
	case 0, 10, 20, 30, 40, 50:
		return false
	}
	return x.left > 0
}

// mark is the sign ahead of a name's frame.
func (x said) mark() string {
	if x.left > 0 {
		return ";"
	}
	return ":"
}

// named is a name's text, whether it is one that is given or not.
func (x said) named(hour, minute, second, frame int) string {
	return fmt.Sprintf("%02d:%02d:%02d%s%02d", hour, minute, second, x.mark(), frame)
}

// clock is a name of a day, with what it tells.
type clock struct {
	hour, minute, second, frame int
	text                        string
	left                        bool // out
}

// names tells all names of a day, those that are left out too.
func (x said) names() iter.Seq[clock] {
	var two [100]string
	for i := range two {
		two[i] = fmt.Sprintf("%02d", i)
	}
	return func(yield func(clock) bool) {
		for hour := range 24 {
			for minute := range 60 {
				for second := range 60 {
					ahead := two[hour] + ":" + two[minute] + ":" + two[second] + x.mark()
					for frame := range x.count {
						out := x.drops(minute) && second == 0 && frame < x.left
						if !yield(clock{hour, minute, second, frame, ahead + two[frame], out}) {
							return
						}
					}
				}
			}
		}
	}
}

// fault is what Number says of a text by the chapter's words, the first of them that hold; api.OK, if it is a name.
func (x said) fault(s string) (int, api.Errno) {
	form := "dd:dd:dd" + x.mark() + "dd"
	for i := range len(s) {
		digit := s[i] >= '0' && s[i] <= '9'
		if i == len(form) || form[i] == 'd' && !digit || form[i] != 'd' && s[i] != form[i] {
			return i, api.ErrTimecodeForm
		}
	}
	if len(s) < len(form) {
		return len(s), api.ErrTimecodeForm
	}
	hour, minute, second, frame := field(s, 0), field(s, 3), field(s, 6), field(s, 9)
	if hour > 23 {
		return 0, api.ErrTimecodeDay
	}
	if minute > 59 {
		return 3, api.ErrTimecodeForm
	}
	if second > 59 {
		return 6, api.ErrTimecodeForm
	}
	if frame > x.count-1 {
		return 9, api.ErrTimecodeForm
	}
	if x.drops(minute) && second == 0 && frame < x.left {
		return 9, api.ErrTimecodeDrop
	}
	return 0, api.OK
}

// field is the number of the two digits at a place.
func field(s string, at int) int {
	n, err := strconv.Atoi(s[at : at+2])
	if err != nil {
		panic(err)
	}
	return n
}

// number is that of a name, counted minute by minute.
func (x said) number(s string) int {
	n := 0
	hour, minute := field(s, 0), field(s, 3)
	for ahead := range 60*hour + minute {
		n += 60 * x.count
		if x.drops(ahead % 60) {
			n -= x.left
		}
	}
	if x.drops(minute) {
		n -= x.left
	}
	return n + x.count*field(s, 6) + field(s, 9)
}

// reads holds what Number says of a text against the chapter's words.
func (x said) reads(t *testing.T, s string) {
	t.Helper()
	at, e := x.fault(s)
	if e != api.OK {
		refused(t, x.rate, s, at, e)
		return
	}
	n, err := timecode.Number(x.rate, s)
	if err != nil || n != x.number(s) {
		t.Fatalf("rate %d: Number of %q is %d, %v, and not %d", x.rate, s, n, err, x.number(s))
	}
}

// refused looks whether Number refuses a text by this error at this place, and tells no number.
func refused(t *testing.T, r api.Rate, s string, at int, e api.Errno) {
	t.Helper()
	n, err := timecode.Number(r, s)
	var f *api.Fault
	if n != 0 || err == nil || !errors.As(err, &f) {
		t.Fatalf("rate %d: Number of %q is %d, %v, and not error %d at %d", r, s, n, err, e, at)
	}
	if *f != (api.Fault{At: at, Err: e}) || !errors.Is(err, e) {
		t.Fatalf("rate %d: Number of %q: %v, and not error %d at %d", r, s, err, e, at)
	}
}

// chance tells numbers that look as if by chance, the same ones each time.
type chance uint64

func (c *chance) below(n int) int {
	*c = *c*6364136223846793005 + 1442695040888963407
	return int(uint64(*c)>>33) % n
}
