package golomb

import (
	"dailies/api"
	"dailies/bits"
)

// maxRate is the highest rate of a coder of runs.
const maxRate = 22

// widths has for each rate how many bits tell what is left of a run that is shorter than a stretch: J of the chapter.
var widths = [maxRate + 1]int{0, 0, 0, 0, 1, 1, 1, 1, 2, 2, 2, 3, 3, 4, 4, 5, 6, 7, 8, 9, 10, 11, 12}

// Runs codes how long runs are; it learns.
type Runs struct {
	rate int
}

// NewRuns makes one.
func NewRuns() *Runs { return &Runs{} }

// Put lays down a run of n, where room more samples are left in the row.
func (x *Runs) Put(w *bits.Writer, n int, room int) api.Errno {
	if w == nil || !roomy(room) {
		return api.ErrArg
	}
	if n < 0 || n > room {
		return api.ErrGolombValue
	}
	left := n
	for x.stretch() <= left {
		w.Put(1, 1)
		left -= x.stretch()
		x.rise()
	}
	if n < room {
		w.Put(0, 1)
		w.Put(uint32(left), widths[x.rate])
		x.fall()
	} else if left > 0 {
		w.Put(1, 1)
	}
	return api.OK
}

// Get reads one.
func (x *Runs) Get(r *bits.Reader, room int) (int, api.Errno) {
	if r == nil || !roomy(room) {
		return 0, api.ErrArg
	}
	// As with Get of a number, a reader and a coder go ahead.
	ahead, learnt := *r, *x
	n, e := learnt.run(&ahead, room)
	if e != api.OK {
		return 0, e
	}
	*r, *x = ahead, learnt
	return n, api.OK
}

// run reads a run; with an error the reader and the rate stand anywhere.
func (x *Runs) run(r *bits.Reader, room int) (int, api.Errno) {
	left := room
	for left > 0 {
		more, e := r.Get(1)
		if e != api.OK {
			return 0, api.ErrGolombEnd
		}
		if more == 0 {
			few, e := x.short(r, left)
			return room - left + few, e
		}
		if x.stretch() > left {
			break
		}
		left -= x.stretch()
		x.rise()
	}
	return room, api.OK
}

// short reads how many samples more a run has that ends ahead of its room's end.
func (x *Runs) short(r *bits.Reader, left int) (int, api.Errno) {
	few, e := r.Get(widths[x.rate])
	if e != api.OK {
		return 0, api.ErrGolombEnd
	}
	if int(few) >= left {
		return 0, api.ErrGolombForm
	}
	x.fall()
	return int(few), api.OK
}

// Rate tells what it has learnt.
func (x *Runs) Rate() int { return x.rate }

// stretch is how many samples a one stands for.
func (x *Runs) stretch() int { return 1 << widths[x.rate] }

func (x *Runs) rise() { x.rate = min(x.rate+1, maxRate) }

func (x *Runs) fall() { x.rate = max(x.rate-1, 0) }

// roomy says whether a row may have so many samples left.
func roomy(room int) bool { return room >= 1 && room <= api.MaxSide }
