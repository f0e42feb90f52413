package slice

import (
	"dailies/golomb"
	"dailies/model"
)

// walk goes through a block's samples. It knows what came back, and nothing of what was handed in: so coder and decoder, which embed it, go alike.
type walk struct {
	width, depth int
	model        *model.Model
	runs         *golomb.Runs
	back         []uint16 // what came back, row by row, of the samples ahead of at
	at           int
}

func newWalk(m *model.Model, w, h, depth int) walk {
	return walk{width: w, depth: depth, model: m, runs: golomb.NewRuns(), back: make([]uint16, w*h)}
}

// spot is where the walk stands: what it knows of the next sample. Where the context is 0, a run may begin there; then the guess is what it would be a run of.
type spot struct{ context, sign, guess int }

// through goes through the block. run tells how many of the samples that are left in the row are a run of a number; one tells a sample's quotient, whose folded number is at least so great.
func (w *walk) through(run func(of, room int) int, one func(s spot, least int) int) {
	for w.at < len(w.back) {
		s, least := w.spot(), 0
		if s.context == 0 {
			room := w.room()
			n := run(s.guess, room)
			w.fill(n, s.guess)
			if n == room {
				continue
			}
			// A quotient of 0 would have been one more of the run.
			least = 1
		}
		q := one(s, least)
		w.model.Learn(s.context, q)
		w.fill(1, w.model.Grow(s.guess, s.sign*q))
	}
}

func (w *walk) spot() spot {
	left, above, corner, right := w.neighbours()
	context, sign := w.model.Find(left, above, corner, right)
	if context == 0 {
		return spot{context, sign, left}
	}
	return spot{context, sign, w.model.Guess(context, sign, left, above, corner)}
}

// neighbours are the samples on the left, above, above on the left and above on the right, as they came back, or what stands for those that are not there.
func (w *walk) neighbours() (left, above, corner, right int) {
	if w.at < w.width {
		left = w.leftInFirstRow()
		return left, left, left, left
	}
	up, x := w.at-w.width, w.at%w.width
	above = int(w.back[up])
	left, corner, right = above, above, above
	if x > 0 {
		left, corner = int(w.back[w.at-1]), int(w.back[up-1])
	}
	if x < w.width-1 {
		right = int(w.back[up+1])
	}
	return left, above, corner, right
}

func (w *walk) leftInFirstRow() int {
	if w.at == 0 {
		return 1 << (w.depth - 1)
	}
	return int(w.back[w.at-1])
}

// room is how many samples are left in the row.
func (w *walk) room() int { return w.width - w.at%w.width }

// fill lets the next n samples come back as one number.
func (w *walk) fill(n, v int) {
	for range n {
		w.back[w.at] = uint16(v)
		w.at++
	}
}
