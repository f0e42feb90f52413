package picture

import (
	"bytes"

	"dailies/api"
	"dailies/tile"
)

const (
	headSize  = 32
	mark      = 0x444c5931 // what a head begins with: DLY1
	maxRecord = 1<<27 - 1  // bytes
)

// Head reads a record's head.
func Head(b []byte) (api.Head, api.Errno) {
	if len(b) < headSize {
		return api.Head{}, api.ErrPictureHead
	}
	h := told(b)
	// What told does not ask (the mark, the sum, a byte that must be 0, one that must be 0 or 1) is held against the bytes that this head would have.
	if !right(h) || !bytes.Equal(headBytes(h), b[:headSize]) {
		return api.Head{}, api.ErrPictureHead
	}
	return h, api.OK
}

// told is what a head's bytes say, right or not.
func told(b []byte) api.Head {
	return api.Head{
		Shape: api.Shape{
			Width:  number(b, 4, 2),
			Height: number(b, 6, 2),
			Depth:  number(b, 8, 1),
			Alpha:  number(b, 9, 1) != 0,
		},
		SliceW: number(b, 10, 2),
		SliceH: number(b, 12, 2),
		Rung:   api.Rung{number(b, 14, 1), number(b, 15, 1), number(b, 16, 1), number(b, 17, 1)},
		Slices: number(b, 18, 4),
		Parity: number(b, 22, 1),
		Length: number(b, 24, 4),
	}
}

// headBytes are those of a right head.
func headBytes(h api.Head) []byte {
	alpha := 0
	if h.Shape.Alpha {
		alpha = 1
	}
	b := lay(nil,
		field{mark, 4},
		field{h.Shape.Width, 2}, field{h.Shape.Height, 2}, field{h.Shape.Depth, 1}, field{alpha, 1},
		field{h.SliceW, 2}, field{h.SliceH, 2},
		field{h.Rung[api.Luma], 1}, field{h.Rung[api.Blue], 1}, field{h.Rung[api.Red], 1}, field{h.Rung[api.Alpha], 1},
		field{h.Slices, 4}, field{h.Parity, 1}, field{0, 1},
		field{h.Length, 4})
	return lay(b, sumOf(b))
}

// right tells whether a head is one that a record may have.
func right(h api.Head) bool {
	grid, e := tile.New(h.Shape, h.SliceW, h.SliceH)
	if e != api.OK || !rungMayBe(h.Rung, h.Shape) {
		return false
	}
	if h.Slices != grid.Count() || !parityMayBe(h.Parity, h.Slices) {
		return false
	}
	return h.Length >= headSize+tableSize(h.Slices, h.Parity) && h.Length <= maxRecord
}
