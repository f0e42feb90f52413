package view

import (
	"slices"

	"dailies/api"
	"dailies/picture"
	"dailies/plane"
)

// region is a rectangle that is whole in the shape, as a frame of its own.
func (l *look) region(r api.Rect) (api.Frame, api.Report, api.Errno) {
	// A rectangle that is whole lies in the frame.
	met, _ := l.grid.Touched(r)
	asked := slices.Collect(met)
	if e := l.readRecord(asked); e != api.OK {
		return api.Frame{}, api.Report{}, e
	}
	f := l.frame(r)
	marks := make([]api.Mark, len(asked))
	for i, k := range asked {
		blocks, mark := l.blocks(k)
		for p, b := range blocks {
			l.place(f, r, k, p, b)
		}
		marks[i] = mark
	}
	return f, l.report(asked, marks), api.OK
}

// frame is that of a rectangle, all noughts.
func (l *look) frame(r api.Rect) api.Frame {
	s := l.head.Shape
	s.Width, s.Height = r.W, r.H
	f := api.Frame{Shape: s, Planes: make([][]uint16, planes(s))}
	for p := range f.Planes {
		part, _ := plane.Half(l.head.Shape, p, r)
		f.Planes[p] = l.samples(part)
	}
	return f
}

// blocks are a slice's, and how it stands: noughts, if it is lost.
func (l *look) blocks(k int) ([]api.Block, api.Mark) {
	blocks := l.noughts(k)
	if l.spoilt(k) {
		return blocks, api.Lost
	}
	told, e := picture.Blocks(l.head, k, l.pieces[k].bytes)
	if e != api.OK {
		return blocks, api.Lost
	}
	for p, b := range told {
		copy(blocks[p].Samples, b.Samples)
	}
	return blocks, l.pieces[k].mark
}

// noughts are a slice's blocks ahead of what its payload tells.
func (l *look) noughts(k int) []api.Block {
	blocks := make([]api.Block, planes(l.head.Shape))
	for p := range blocks {
		part, _ := l.grid.Part(k, p)
		blocks[p] = api.Block{W: part.W, H: part.H, Samples: l.samples(part)}
	}
	return blocks
}

// samples are as many noughts of the meter's, which has them by Bound, as a rectangle has.
func (l *look) samples(r api.Rect) []uint16 {
	list, _ := l.meter.Samples(r.W * r.H)
	return list
}

// place writes what a rectangle has of a slice's block into its frame, row by row: plane's Paste would look at the whole frame, and copy it, for each.
func (l *look) place(f api.Frame, r api.Rect, k, p int, b api.Block) {
	to, _ := plane.Half(l.head.Shape, p, r)
	from, _ := l.grid.Part(k, p)
	left, right := max(to.X, from.X), min(to.X+to.W, from.X+from.W)
	top, bottom := max(to.Y, from.Y), min(to.Y+to.H, from.Y+from.H)
	for y := top; y < bottom; y++ {
		row := b.Samples[(y-from.Y)*from.W:][left-from.X : right-from.X]
		copy(f.Planes[p][(y-to.Y)*to.W+left-to.X:], row)
	}
}

// planes is how many a frame of a shape has.
func planes(s api.Shape) int {
	if s.Alpha {
		return api.Alpha + 1
	}
	return api.Red + 1
}
