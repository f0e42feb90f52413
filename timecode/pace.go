package timecode

import "dailies/api"

const (
	// dayTens is how many tens of minutes a day has.
	dayTens = 24 * 6
	// dropping is how many minutes of ten leave names out: all but the first.
	dropping = 9
)

// pace is what a rate stands for.
type pace struct {
	count                  int   // frames that are named in a second
	numerator, denominator int64 // of the frames that there are in one
	leftOut                int   // names that are not given at the beginning of a minute
}

// paces has the rates' ones, from Rate24 on.
var paces = [7]pace{
	{24, 24, 1, 0},
	{25, 25, 1, 0},
	{30, 30, 1, 0},
	{30, 30000, 1001, 2},
	{50, 50, 1, 0},
	{60, 60, 1, 0},
	{60, 60000, 1001, 4},
}

// paceOf is a rate's pace, if it is a rate.
func paceOf(r api.Rate) (pace, api.Errno) {
	if r < api.Rate24 || r > api.Rate60Drop {
		return pace{}, api.ErrTimecodeRate
	}
	return paces[r-api.Rate24], api.OK
}

// paceOfFrame is a rate's pace, if its day has a frame of this number.
func paceOfFrame(r api.Rate, n int) (pace, api.Errno) {
	p, e := paceOf(r)
	if e != api.OK {
		return pace{}, e
	}
	if n < 0 || n >= p.perDay() {
		return pace{}, api.ErrTimecodeDay
	}
	return p, api.OK
}

// drops tells whether it leaves names out.
func (p pace) drops() bool { return p.leftOut > 0 }

// perMinute is how many names a minute has, those that are left out too.
func (p pace) perMinute() int { return 60 * p.count }

// perTen is how many names are given in ten minutes.
func (p pace) perTen() int { return 10*p.perMinute() - dropping*p.leftOut }

// perDay is how many names are given in a day.
func (p pace) perDay() int { return dayTens * p.perTen() }

// leftOutAhead is how many names are left out ahead of that of a day's frame.
func (p pace) leftOutAhead(n int) int {
	minutes := dropping * (n / p.perTen())
	// The first of ten minutes is whole: it alone has more frames than the others.
	if behind := n%p.perTen() - p.perMinute(); behind >= 0 {
		minutes += 1 + behind/(p.perMinute()-p.leftOut)
	}
	return minutes * p.leftOut
}
