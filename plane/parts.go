package plane

import "dailies/api"

// Crop takes a rectangle out of a plane.
func Crop(f api.Frame, plane int, r api.Rect) (api.Block, api.Errno) {
	if e := Valid(f); e != api.OK {
		return api.Block{}, e
	}
	if !inPlane(f.Shape, plane, r) {
		return api.Block{}, api.ErrPlaneRect
	}
	width, _ := sides(f.Shape, plane)
	return api.Block{W: r.W, H: r.H, Samples: part(f.Planes[plane], width, r)}, api.OK
}

// Paste is the frame with a block in a plane.
func Paste(f api.Frame, plane int, x int, y int, b api.Block) (api.Frame, api.Errno) {
	if e := Valid(f); e != api.OK {
		return api.Frame{}, e
	}
	if !inPlane(f.Shape, plane, api.Rect{X: x, Y: y, W: b.W, H: b.H}) {
		return api.Frame{}, api.ErrPlaneRect
	}
	if len(b.Samples) != b.W*b.H {
		return api.Frame{}, api.ErrPlaneSize
	}
	if above(b.Samples, f.Shape.Depth) {
		return api.Frame{}, api.ErrPlaneSample
	}
	g := blank(f.Shape)
	for p, samples := range f.Planes {
		copy(g.Planes[p], samples)
	}
	width, _ := sides(f.Shape, plane)
	for row := range b.H {
		at := (y+row)*width + x
		copy(g.Planes[plane][at:at+b.W], b.Samples[row*b.W:])
	}
	return g, api.OK
}

// Half is which part of a plane belongs to a rectangle of luma.
func Half(s api.Shape, plane int, r api.Rect) (api.Rect, api.Errno) {
	if e := Shaped(s); e != api.OK {
		return api.Rect{}, e
	}
	if !there(s, plane) || !whole(s, r) {
		return api.Rect{}, api.ErrPlaneRect
	}
	return belongs(plane, r), api.OK
}

// Cut is a rectangle of all planes, as a frame.
func Cut(f api.Frame, r api.Rect) (api.Frame, api.Errno) {
	if e := Valid(f); e != api.OK {
		return api.Frame{}, e
	}
	if !whole(f.Shape, r) {
		return api.Frame{}, api.ErrPlaneRect
	}
	g := api.Frame{Shape: f.Shape, Planes: make([][]uint16, len(f.Planes))}
	g.Shape.Width, g.Shape.Height = r.W, r.H
	for p, samples := range f.Planes {
		width, _ := sides(f.Shape, p)
		g.Planes[p] = part(samples, width, belongs(p, r))
	}
	return g, api.OK
}

// lies tells whether a rectangle lies in w by h samples. Nothing is added up: a sum could go round.
func lies(r api.Rect, w, h int) bool {
	if r.W < 1 || r.H < 1 || r.X < 0 || r.Y < 0 {
		return false
	}
	return r.X < w && r.W <= w-r.X && r.Y < h && r.H <= h-r.Y
}

// inPlane tells whether a plane is there and a rectangle of its own samples lies in it.
func inPlane(s api.Shape, plane int, r api.Rect) bool {
	if !there(s, plane) {
		return false
	}
	w, h := sides(s, plane)
	return lies(r, w, h)
}

// whole tells whether no sample of chroma belongs to luma both within and beside a rectangle.
func whole(s api.Shape, r api.Rect) bool {
	if !lies(r, s.Width, s.Height) || r.X%2 != 0 {
		return false
	}
	return r.W%2 == 0 || r.X+r.W == s.Width
}

// belongs is the part of a plane that belongs to a rectangle that is whole.
func belongs(plane int, r api.Rect) api.Rect {
	if chroma(plane) {
		return api.Rect{X: r.X / 2, Y: r.Y, W: half(r.W), H: r.H}
	}
	return r
}

// part has the samples of a rectangle that lies in a plane of this width.
func part(samples []uint16, width int, r api.Rect) []uint16 {
	out := make([]uint16, r.W*r.H)
	for row := range r.H {
		at := (r.Y+row)*width + r.X
		copy(out[row*r.W:(row+1)*r.W], samples[at:])
	}
	return out
}
