package pool

import (
	"dailies/api"
	"dailies/plane"
)

// grid is how frames of a shape that may be are cut into slices.
type grid struct {
	shape          api.Shape
	sliceW, sliceH int
}

// numbers are those of all slices, rising.
func (g grid) numbers() []int {
	list := make([]int, parts(g.shape.Width, g.sliceW)*parts(g.shape.Height, g.sliceH))
	for k := range list {
		list[k] = k
	}
	return list
}

// rect is a slice's rectangle of luma.
func (g grid) rect(k int) api.Rect {
	columns := parts(g.shape.Width, g.sliceW)
	x, y := k%columns*g.sliceW, k/columns*g.sliceH
	return api.Rect{X: x, Y: y, W: min(g.sliceW, g.shape.Width-x), H: min(g.sliceH, g.shape.Height-y)}
}

// parts is how many slices a side of the frame has.
func parts(side, slice int) int { return (side + slice - 1) / slice }

// lift is a rectangle that is whole as a frame of its own. It is taken out here, since plane's Cut would look at the whole frame for each.
func lift(f api.Frame, r api.Rect) api.Frame {
	g := api.Frame{Shape: f.Shape, Planes: make([][]uint16, len(f.Planes))}
	g.Shape.Width, g.Shape.Height = r.W, r.H
	for p, samples := range f.Planes {
		width, part := lies(f.Shape, p, r)
		g.Planes[p] = make([]uint16, 0, part.W*part.H)
		for y := range part.H {
			at := (part.Y+y)*width + part.X
			g.Planes[p] = append(g.Planes[p], samples[at:at+part.W]...)
		}
	}
	return g
}

// lay writes the planes of a rectangle that is whole into a frame: plane's Paste would look at the whole frame, and copy it, for each.
func lay(f api.Frame, r api.Rect, planes [][]uint16) {
	for p, samples := range planes {
		width, part := lies(f.Shape, p, r)
		for y := range part.H {
			at := (part.Y+y)*width + part.X
			copy(f.Planes[p][at:at+part.W], samples[y*part.W:])
		}
	}
}

// lies is a plane's width, and which part of it belongs to a rectangle; neither is refused for a plane that is there and a rectangle that is whole.
func lies(s api.Shape, p int, r api.Rect) (int, api.Rect) {
	width, _, _ := plane.Size(s, p)
	part, _ := plane.Half(s, p, r)
	return width, part
}
