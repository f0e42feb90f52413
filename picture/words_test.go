package picture_test

import (
	"bytes"
	"encoding/binary"
	"math"
	"slices"
	"testing"

	"dailies/api"
	"dailies/crc"
	"dailies/parity"
	"dailies/picture"
	"dailies/slice"
)

// chance tells numbers that look as if by chance, the same ones each time.
type chance uint64

func (c *chance) below(n int) int {
	*c = *c*6364136223846793005 + 1442695040888963407
	return int(uint64(*c)>>33) % n
}

// odd are numbers that are hardly any side, tolerance, slice or length.
func odd() []int {
	return []int{math.MinInt, math.MinInt + 1, math.MinInt32, -1 << 32, -2, -1, 1 << 31, 1 << 32, 1<<32 + 16, math.MaxInt - 1, math.MaxInt}
}

func count(s api.Shape) int {
	if s.Alpha {
		return 4
	}
	return 3
}

// rects are the slices' rectangles of luma, row by row, found by taking one off after the other.
func rects(s api.Shape, w, h int) []api.Rect {
	var list []api.Rect
	for y := 0; y < s.Height; y += h {
		for x := 0; x < s.Width; x += w {
			list = append(list, api.Rect{X: x, Y: y, W: min(w, s.Width-x), H: min(h, s.Height-y)})
		}
	}
	return list
}

// part is what belongs to a rectangle of luma in a plane.
func part(p int, r api.Rect) api.Rect {
	if p == api.Luma || p == api.Alpha {
		return r
	}
	return api.Rect{X: r.X / 2, Y: r.Y, W: (r.W + 1) / 2, H: r.H}
}

// wide is a plane's width.
func wide(s api.Shape, p int) int { return part(p, api.Rect{W: s.Width}).W }

// frameOf has samples that are told by their plane and place.
func frameOf(s api.Shape, sample func(p, x, y int) int) api.Frame {
	f := api.Frame{Shape: s}
	for p := range count(s) {
		var samples []uint16
		for y := range s.Height {
			for x := range wide(s, p) {
				samples = append(samples, uint16(min(max(sample(p, x, y), 0), 1<<s.Depth-1)))
			}
		}
		f.Planes = append(f.Planes, samples)
	}
	return f
}

// flat, ramp, noise and mixed are frames by which slices are told very short, short, raw, and all of these.
func flat(s api.Shape, v int) api.Frame { return frameOf(s, func(p, x, y int) int { return v }) }

func ramp(s api.Shape) api.Frame {
	return frameOf(s, func(p, x, y int) int { return (3*x + 7*y + p) % (1 << s.Depth) })
}

func noise(s api.Shape, c *chance) api.Frame {
	return frameOf(s, func(p, x, y int) int { return c.below(1 << s.Depth) })
}

func mixed(s api.Shape, c *chance) api.Frame {
	return frameOf(s, func(p, x, y int) int {
		switch (x/11 + y/13 + p) % 4 {
		case 0:
			return c.below(1 << s.Depth)
		case 1:
			return 1<<s.Depth - 1 - c.below(3)
		case 2:
			return 5*x + y + c.below(20)
		default:
			return 300
		}
	})
}

// block is the samples of a rectangle, one by one.
func block(f api.Frame, p int, r api.Rect) api.Block {
	b := api.Block{W: r.W, H: r.H}
	for y := range r.H {
		for x := range r.W {
			b.Samples = append(b.Samples, f.Planes[p][(r.Y+y)*wide(f.Shape, p)+r.X+x])
		}
	}
	return b
}

func sameBlocks(a, b []api.Block) bool {
	return slices.EqualFunc(a, b, func(a, b api.Block) bool {
		return a.W == b.W && a.H == b.H && slices.Equal(a.Samples, b.Samples)
	})
}

// payloadOf is a slice's payload by the chapter's words.
func payloadOf(t *testing.T, f api.Frame, rung api.Rung, r api.Rect) []byte {
	t.Helper()
	var out []byte
	for p := range count(f.Shape) {
		s, e := slice.Encode(block(f, p, part(p, r)), f.Shape.Depth, rung[p])
		if e != api.OK {
			t.Fatal(p, r, e)
		}
		out = append(out, byte(len(s)>>16), byte(len(s)>>8), byte(len(s)))
		out = append(out, s...)
	}
	return out
}

func payloadsOf(t *testing.T, f api.Frame, c api.Config, rung api.Rung) [][]byte {
	t.Helper()
	var list [][]byte
	for _, r := range rects(f.Shape, c.SliceW, c.SliceH) {
		list = append(list, payloadOf(t, f, rung, r))
	}
	return list
}

var big = binary.BigEndian

// headOf is a head's bytes by the chapter's words, right or not, as far as its numbers fit.
func headOf(h api.Head) []byte {
	b := []byte{0x44, 0x4c, 0x59, 0x31}
	b = big.AppendUint16(b, uint16(h.Shape.Width))
	b = big.AppendUint16(b, uint16(h.Shape.Height))
	b = append(b, byte(h.Shape.Depth), 0)
	if h.Shape.Alpha {
		b[9] = 1
	}
	b = big.AppendUint16(b, uint16(h.SliceW))
	b = big.AppendUint16(b, uint16(h.SliceH))
	for _, d := range h.Rung {
		b = append(b, byte(d))
	}
	b = big.AppendUint32(b, uint32(h.Slices))
	b = append(b, byte(h.Parity), 0)
	b = big.AppendUint32(b, uint32(h.Length))
	return big.AppendUint32(b, crc.Sum(b))
}

// resummed is a head or a table with another last sum: that of what stands ahead of it.
func resummed(b []byte) []byte {
	front := bytes.Clone(b[:len(b)-4])
	return big.AppendUint32(front, crc.Sum(front))
}

// tableOf is a table's bytes of lengths and sums by the chapter's words; the sums behind those of the lengths are the parity rows'.
func tableOf(lengths []int, sums []uint32) []byte {
	var b []byte
	for k, n := range lengths {
		b = big.AppendUint32(b, uint32(n))
		b = big.AppendUint32(b, sums[k])
	}
	for _, sum := range sums[len(lengths):] {
		b = big.AppendUint32(b, sum)
	}
	return big.AppendUint32(b, crc.Sum(b))
}

// recordOf is the record of payloads by the chapter's words.
func recordOf(t *testing.T, s api.Shape, c api.Config, rung api.Rung, payloads [][]byte) []byte {
	t.Helper()
	var rows [][]byte
	if c.Parity > 0 {
		made, e := parity.Make(payloads, c.Parity)
		if e != api.OK {
			t.Fatal(e)
		}
		rows = made
	}
	var lengths []int
	var sums []uint32
	var behind []byte
	for _, payload := range payloads {
		lengths, sums = append(lengths, len(payload)), append(sums, crc.Sum(payload))
		behind = append(behind, payload...)
	}
	for _, row := range rows {
		sums = append(sums, crc.Sum(row))
		behind = append(behind, row...)
	}
	table := tableOf(lengths, sums)
	head := headOf(api.Head{Shape: s, SliceW: c.SliceW, SliceH: c.SliceH, Rung: rung, Slices: len(payloads), Parity: c.Parity, Length: 32 + len(table) + len(behind)})
	return slices.Concat(head, table, behind)
}

// rungIs, parityIs and headIs tell by the chapter's words whether a rung may be, so many parity rows may be, and a head is right.
func rungIs(rung api.Rung, s api.Shape) bool {
	for p, d := range rung {
		if d < 0 || d > 63 || p == api.Alpha && !s.Alpha && d != 0 {
			return false
		}
	}
	return true
}

func parityIs(p, n int) bool { return p == 0 || p >= 1 && p <= 16 && n <= 200 }

func shapeIs(s api.Shape) bool {
	side := func(n int) bool { return n >= 1 && n <= 4096 }
	if !side(s.Width) || !side(s.Height) || s.Depth != 10 && s.Depth != 12 {
		return false
	}
	total := 0
	for p := range count(s) {
		total += wide(s, p) * s.Height
	}
	return total <= 4194304
}

func sidesAre(w, h int) bool { return w >= 16 && w <= 4096 && w%2 == 0 && h >= 16 && h <= 4096 }

func headIs(h api.Head) bool {
	if !shapeIs(h.Shape) || !sidesAre(h.SliceW, h.SliceH) || !rungIs(h.Rung, h.Shape) {
		return false
	}
	if h.Slices != len(rects(h.Shape, h.SliceW, h.SliceH)) || !parityIs(h.Parity, h.Slices) {
		return false
	}
	return h.Length >= 32+8*h.Slices+4*h.Parity+4 && h.Length <= 134217727
}

func configIs(c api.Config, s api.Shape) bool {
	if !sidesAre(c.SliceW, c.SliceH) || len(c.Ladder) < 1 || len(c.Ladder) > 16 || c.Cap < 0 {
		return false
	}
	for _, rung := range c.Ladder {
		if !rungIs(rung, s) {
			return false
		}
	}
	return parityIs(c.Parity, len(rects(s, c.SliceW, c.SliceH)))
}

// boundOf is Bound by the chapter's words.
func boundOf(s api.Shape, c api.Config) int {
	all, greatest, n := 0, 0, 0
	for _, r := range rects(s, c.SliceW, c.SliceH) {
		most := 0
		for p := range count(s) {
			q := part(p, r)
			most += 4 + int(math.Ceil(float64(q.W*q.H*s.Depth)/8))
		}
		all, greatest, n = all+most, max(greatest, most), n+1
	}
	return 36 + 8*n + 4*c.Parity + all + c.Parity*greatest
}

// blocksOf is Blocks by the chapter's words, of a right head and a slice that is there.
func blocksOf(h api.Head, k int, payload []byte) ([]api.Block, api.Errno) {
	var texts [][]byte
	rest := payload
	for range count(h.Shape) {
		if len(rest) < 3 {
			return nil, api.ErrPictureLength
		}
		n := int(rest[0])<<16 + int(rest[1])<<8 + int(rest[2])
		if len(rest)-3 < n {
			return nil, api.ErrPictureLength
		}
		texts, rest = append(texts, rest[3:3+n]), rest[3+n:]
	}
	if len(rest) > 0 {
		return nil, api.ErrPictureLength
	}
	var list []api.Block
	for p, text := range texts {
		r := part(p, rects(h.Shape, h.SliceW, h.SliceH)[k])
		b, e := slice.Decode(text, r.W, r.H, h.Shape.Depth, h.Rung[p])
		if e != api.OK {
			return nil, e
		}
		list = append(list, b)
	}
	return list, api.OK
}

// way is a frame with a configuration that may be for it.
type way struct {
	frame  api.Frame
	config api.Config
}

// ways are frames and configurations of all kinds: with alpha and without, of both depths and odd widths, of one slice and of many, with parity and without, by one rung and by sixteen.
func ways() []way {
	c := chance(12)
	rungs := []api.Rung{{}, {1, 2, 3}, {63, 63, 63}, {0, 5, 0}, {7, 0, 9}}
	var ladder []api.Rung
	for i := range 16 {
		ladder = append(ladder, api.Rung{4 * i, 3 * i, 2 * i})
	}
	var list []way
	for i, s := range []api.Shape{
		{Width: 1, Height: 1, Depth: 10}, {Width: 1, Height: 40, Depth: 12}, {Width: 16, Height: 16, Depth: 10}, {Width: 17, Height: 17, Depth: 12},
		{Width: 48, Height: 32, Depth: 10}, {Width: 51, Height: 20, Depth: 10}, {Width: 33, Height: 50, Depth: 12},
	} {
		for k, f := range []api.Frame{flat(s, 100), ramp(s), noise(s, &c), mixed(s, &c)} {
			configs := []api.Config{
				{SliceW: 16, SliceH: 16, Ladder: rungs[i%5 : i%5+1]},
				{SliceW: 18, SliceH: 17, Ladder: rungs, Parity: 1 + k},
				{SliceW: 4096, SliceH: 4096, Ladder: ladder, Parity: 4 * k},
				{SliceW: 16, SliceH: 4096, Ladder: rungs[1:3], Parity: 16},
			}
			for _, config := range configs {
				list = append(list, way{f, config})
			}
		}
		s.Alpha = true
		with := slices.Clone(rungs)
		for k := range with {
			with[k][api.Alpha] = 63 - 13*k
		}
		list = append(list, way{mixed(s, &c), api.Config{SliceW: 16, SliceH: 16, Ladder: with, Parity: 3}}, way{noise(s, &c), api.Config{SliceW: 32, SliceH: 19, Ladder: with}})
	}
	return list
}

// at is At, which must not be refused.
func at(t *testing.T, f api.Frame, c api.Config, step int) api.Coded {
	t.Helper()
	x, e := picture.At(f, c, step)
	if e != api.OK || x.Step != step || x.Rung != c.Ladder[step] {
		t.Fatalf("%v, %v: At %d: %d %v %v", f.Shape, c, step, x.Step, x.Rung, e)
	}
	return x
}

// opened is a record's head and entries, which must not be refused.
func opened(t *testing.T, record []byte) (api.Head, []api.Entry) {
	t.Helper()
	h, e := picture.Head(record)
	if e != api.OK {
		t.Fatal("Head", e)
	}
	list, e := picture.Table(h, record[32:])
	if e != api.OK {
		t.Fatal("Table", h, e)
	}
	return h, list
}

// bytesOf is what an entry says of a record.
func bytesOf(record []byte, entry api.Entry) []byte {
	return record[entry.At : entry.At+entry.Length]
}

// pasted is the frame of all blocks of a record.
func pasted(t *testing.T, record []byte) api.Frame {
	t.Helper()
	h, list := opened(t, record)
	f := flat(h.Shape, 0)
	for k, r := range rects(h.Shape, h.SliceW, h.SliceH) {
		blocks, e := picture.Blocks(h, k, bytesOf(record, list[k]))
		if e != api.OK {
			t.Fatal("Blocks", k, e)
		}
		for p, b := range blocks {
			q := part(p, r)
			for i, v := range b.Samples {
				f.Planes[p][(q.Y+i/b.W)*wide(h.Shape, p)+q.X+i%b.W] = v
			}
		}
	}
	return f
}
