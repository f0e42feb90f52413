package pixel

import (
	"iter"
	"slices"

	"dailies/api"
	"dailies/plane"
)

// format is how frames stand in bytes: row behind row, each of one plane or of some planes together.
type format struct {
	has   func(s api.Shape) bool              // are there frames of this shape?
	sets  func(s api.Shape) [][]int           // the planes that have their rows together, set behind set
	bytes func(width int) int                 // how many a row has, by the width of its first plane
	write func(row [][]uint16) []byte         // a row's bytes, by the samples of each plane
	read  func(row [][]uint16, b []byte) bool // puts the samples into row; false, if something that must be 0 is not
}

// size is how many bytes a frame of this shape has.
func (k format) size(s api.Shape) (int, api.Errno) {
	if e := plane.Shaped(s); e != api.OK {
		return 0, e
	}
	if !k.has(s) {
		return 0, api.ErrPixelFormat
	}
	sum := 0
	for _, set := range k.sets(s) {
		width, height, _ := plane.Size(s, set[0])
		sum += height * k.bytes(width)
	}
	return sum, api.OK
}

// pack is a frame's bytes.
func (k format) pack(f api.Frame) ([]byte, api.Errno) {
	if e := plane.Valid(f); e != api.OK {
		return nil, e
	}
	size, e := k.size(f.Shape)
	if e != api.OK {
		return nil, e
	}
	out := make([]byte, 0, size)
	for row := range k.rows(f) {
		out = append(out, k.write(row)...)
	}
	return out, api.OK
}

// unpack is the frame that such bytes are.
func (k format) unpack(s api.Shape, b []byte) (api.Frame, api.Errno) {
	size, e := k.size(s)
	if e != api.OK {
		return api.Frame{}, e
	}
	if len(b) != size {
		return api.Frame{}, api.ErrPixelLength
	}
	f, _ := plane.New(s)
	for row := range k.rows(f) {
		n := k.bytes(len(row[0]))
		if !k.read(row, b[:n]) {
			return api.Frame{}, api.ErrPixelSample
		}
		b = b[n:]
	}
	// Bytes may have room for more than the depth allows.
	if plane.Valid(f) != api.OK {
		return api.Frame{}, api.ErrPixelSample
	}
	return f, api.OK
}

// rows tells a frame's rows in their order. Their samples are the frame's own, so that reading writes into it.
func (k format) rows(f api.Frame) iter.Seq[[][]uint16] {
	return func(yield func([][]uint16) bool) {
		for _, set := range k.sets(f.Shape) {
			for y := range f.Shape.Height {
				if !yield(rowOf(f, set, y)) {
					return
				}
			}
		}
	}
}

// rowOf has the samples of some planes at one height.
func rowOf(f api.Frame, set []int, y int) [][]uint16 {
	row := make([][]uint16, len(set))
	for i, p := range set {
		width := len(f.Planes[p]) / f.Shape.Height
		row[i] = f.Planes[p][y*width : (y+1)*width]
	}
	return row
}

// backward is the same bytes, the last one first. Both formats have a number's lowest byte first: told from the back, a row is bits as the package bits has them.
func backward(b []byte) []byte {
	out := slices.Clone(b)
	slices.Reverse(out)
	return out
}
