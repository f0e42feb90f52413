package picture

import (
	"dailies/api"
	"dailies/plane"
	"dailies/slice"
	"dailies/tile"
)

const (
	textSize   = 3         // bytes that say how long a plane's are
	maxPayload = 1<<24 - 1 // bytes
)

// Blocks makes a slice's bytes its blocks, plane by plane.
func Blocks(h api.Head, k int, payload []byte) ([]api.Block, api.Errno) {
	if !right(h) {
		return nil, api.ErrPictureHead
	}
	if k < 0 || k >= h.Slices {
		return nil, api.ErrTileSlice
	}
	texts, ok := split(payload, planes(h.Shape))
	if !ok {
		return nil, api.ErrPictureLength
	}
	// A right head's sides are not refused.
	grid, _ := tile.New(h.Shape, h.SliceW, h.SliceH)
	blocks := make([]api.Block, len(texts))
	for p, text := range texts {
		part, _ := grid.Part(k, p)
		b, e := slice.Decode(text, part.W, part.H, h.Shape.Depth, h.Rung[p])
		if e != api.OK {
			return nil, e
		}
		blocks[p] = b
	}
	return blocks, api.OK
}

// split is a payload's bytes of each of so many planes; false, if it has fewer bytes than it says, or more.
func split(payload []byte, count int) ([][]byte, bool) {
	texts := make([][]byte, count)
	for p := range texts {
		if len(payload) < textSize {
			return nil, false
		}
		end := textSize + number(payload, 0, textSize)
		if len(payload) < end {
			return nil, false
		}
		texts[p], payload = payload[textSize:end], payload[end:]
	}
	return texts, len(payload) == 0
}

// payload is a slice's bytes, by a rung that may be.
func (j job) payload(rung api.Rung, k int) []byte {
	var payload []byte
	for p := range j.frame.Planes {
		// A part of a frame that may be is a block that may be.
		text, _ := slice.Encode(j.block(k, p), j.frame.Shape.Depth, rung[p])
		payload = append(lay(payload, field{len(text), textSize}), text...)
	}
	return payload
}

// block is the part of a plane that belongs to a slice. It is taken out here, since plane's Crop would look at the whole frame for each.
func (j job) block(k, p int) api.Block {
	r, _ := j.grid.Part(k, p)
	width, _, _ := plane.Size(j.frame.Shape, p)
	b := api.Block{W: r.W, H: r.H, Samples: make([]uint16, 0, r.W*r.H)}
	for y := r.Y; y < r.Y+r.H; y++ {
		at := y*width + r.X
		b.Samples = append(b.Samples, j.frame.Planes[p][at:at+r.W]...)
	}
	return b
}

// longest is how many bytes a slice's payload has at most: no block takes more than raw.
func longest(grid *tile.Grid, k int, s api.Shape) int {
	total := 0
	for p := range planes(s) {
		r, _ := grid.Part(k, p)
		raw, _ := slice.RawSize(r.W, r.H, s.Depth)
		total += textSize + raw
	}
	return total
}
