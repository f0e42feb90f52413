package slice

import (
	"dailies/api"
	"dailies/bits"
	"dailies/golomb"
)

// decoder takes a block's samples up while it walks. Bytes that are none are given up by a panic with the error's number, so that nothing between the bit that is wrong and read must hand it on.
type decoder struct {
	walk
	in *bits.Reader
}

func newDecoder(s []byte, w walk) *decoder { return &decoder{walk: w, in: bits.NewReader(s)} }

// read lets the whole block come back.
func (d *decoder) read() (e api.Errno) {
	defer func() {
		if given := recover(); given != nil {
			e = given.(api.Errno)
		}
	}()
	switch taken(d.in.Get(8)) {
	case raw:
		d.samples()
	case coded:
		d.through(d.run, d.one)
	default:
		panic(api.ErrSliceForm)
	}
	d.end()
	return api.OK
}

func (d *decoder) samples() {
	for range d.back {
		d.fill(1, int(taken(d.in.Get(d.depth))))
	}
}

func (d *decoder) run(of, room int) int { return taken(d.runs.Get(d.in, room)) }

func (d *decoder) one(s spot, least int) int {
	folded := least + taken(golomb.Get(d.in, d.model.Param(s.context), d.model.Wide()))
	if folded >= d.model.Range() {
		panic(api.ErrSliceForm)
	}
	q, _ := golomb.Unfold(folded)
	return q
}

// end looks at what stands behind the last sample: filling up to a whole byte, and nothing else.
func (d *decoder) end() {
	if taken(d.in.Get(d.in.Left()%8)) != 0 {
		panic(api.ErrSliceForm)
	}
	if d.in.Left() > 0 {
		panic(api.ErrSliceLong)
	}
}

// taken is what a layer below took; where it refused, whatever its reason, the bytes are none.
func taken[T int | uint32](v T, e api.Errno) T {
	if e != api.OK {
		panic(api.ErrSliceForm)
	}
	return v
}
