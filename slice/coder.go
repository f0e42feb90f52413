package slice

import (
	"dailies/bits"
	"dailies/golomb"
)

// coder lays a block's samples down while it walks.
type coder struct {
	walk
	samples   []uint16
	tolerance int
	out       *bits.Writer
}

func newCoder(samples []uint16, tolerance int, w walk) *coder {
	return &coder{walk: w, samples: samples, tolerance: tolerance, out: bits.NewWriter()}
}

// write lays the whole block down: its bytes, coded.
func (c *coder) write() []byte {
	c.out.Put(coded, 8)
	c.through(c.run, c.one)
	return c.out.Bytes()
}

func (c *coder) run(of, room int) int {
	n := 0
	for n < room && c.near(of, int(c.samples[c.at+n])) {
		n++
	}
	c.runs.Put(c.out, n, room)
	return n
}

func (c *coder) near(a, v int) bool { return v-a <= c.tolerance && a-v <= c.tolerance }

func (c *coder) one(s spot, least int) int {
	q := c.model.Shrink(s.sign * (int(c.samples[c.at]) - s.guess))
	folded, _ := golomb.Fold(q)
	golomb.Put(c.out, folded-least, c.model.Param(s.context), c.model.Wide())
	return q
}

// rawOf are a block's bytes, raw.
func rawOf(samples []uint16, depth int) []byte {
	out := bits.NewWriter()
	out.Put(raw, 8)
	for _, v := range samples {
		out.Put(uint32(v), depth)
	}
	return out.Bytes()
}
