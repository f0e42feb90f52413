package picture_test

import (
	"bytes"
	"slices"
	"testing"

	"dailies/api"
	"dailies/picture"
	"dailies/slice"
)

func refusesBlocks(t *testing.T, h api.Head, k int, payload []byte, want api.Errno) {
	t.Helper()
	if list, e := picture.Blocks(h, k, payload); len(list) != 0 || e != want {
		t.Fatalf("%v, %d, %v: %v %v; want %v", h, k, payload, list, e, want)
	}
}

// textsOf makes a payload of the planes' bytes.
func textsOf(texts ...[]byte) []byte {
	var out []byte
	for _, s := range texts {
		out = append(append(out, byte(len(s)>>16), byte(len(s)>>8), byte(len(s))), s...)
	}
	return out
}

// dot is a head of one slice of 1 by 1 samples; of depth 10 these are the chapter's bytes 1 128 of the sample 512.
func dot(alpha bool) api.Head {
	return api.Head{Shape: api.Shape{Width: 1, Height: 1, Depth: 10, Alpha: alpha}, SliceW: 16, SliceH: 16, Slices: 1, Length: 100}
}

var (
	good = []byte{1, 128}
	raw  = []byte{0, 127, 192}
	form = []byte{1, 129}
	long = []byte{1, 128, 0}
)

func TestBlocksReads(t *testing.T) {
	one := func(v uint16) api.Block { return api.Block{W: 1, H: 1, Samples: []uint16{v}} }
	list, e := picture.Blocks(dot(false), 0, textsOf(good, raw, good))
	if !sameBlocks(list, []api.Block{one(512), one(511), one(512)}) || e != api.OK {
		t.Error(list, e)
	}
	list, e = picture.Blocks(dot(true), 0, textsOf(good, raw, good, raw))
	if !sameBlocks(list, []api.Block{one(512), one(511), one(512), one(511)}) || e != api.OK {
		t.Error(list, e)
	}
}

// P2: the head is asked first, then the slice, then the payload's lengths, then plane by plane what slice says.
func TestBlocksRefusesInOrder(t *testing.T) {
	some := [][]byte{nil, {}, {0}, {0, 0, 0}, textsOf(good, good, good), append(textsOf(form, good, good), 0)}
	for _, payload := range some {
		for _, h := range wrongHeads() {
			for _, k := range []int{-1, 0, 6} {
				refusesBlocks(t, h, k, payload, api.ErrPictureHead)
			}
		}
		for _, k := range append(odd(), 6, 7) {
			refusesBlocks(t, rightHead, k, payload, api.ErrTileSlice)
		}
		for _, k := range append(odd(), 1) {
			refusesBlocks(t, dot(false), k, payload, api.ErrTileSlice)
		}
	}
	for _, x := range []struct {
		texts [][]byte
		want  api.Errno
	}{
		{[][]byte{good, good, good}, api.OK},
		{[][]byte{form, good, good}, api.ErrSliceForm},
		{[][]byte{good, form, good}, api.ErrSliceForm},
		{[][]byte{good, good, form}, api.ErrSliceForm},
		{[][]byte{long, good, good}, api.ErrSliceLong},
		{[][]byte{good, long, good}, api.ErrSliceLong},
		{[][]byte{good, good, long}, api.ErrSliceLong},
		{[][]byte{form, long, long}, api.ErrSliceForm},
		{[][]byte{long, form, form}, api.ErrSliceLong},
		{[][]byte{good, form, long}, api.ErrSliceForm},
		{[][]byte{good, long, form}, api.ErrSliceLong},
		{[][]byte{nil, good, good}, api.ErrSliceForm},
		{[][]byte{good, nil, long}, api.ErrSliceForm},
		{[][]byte{nil, nil, nil}, api.ErrSliceForm},
		{[][]byte{{2, 128}, good, good}, api.ErrSliceForm},
		// Not as many planes.
		{[][]byte{}, api.ErrPictureLength},
		{[][]byte{good}, api.ErrPictureLength},
		{[][]byte{good, good}, api.ErrPictureLength},
		{[][]byte{good, good, good, good}, api.ErrPictureLength},
		{[][]byte{form, long}, api.ErrPictureLength},
		{[][]byte{form, form, form, form}, api.ErrPictureLength},
	} {
		payload := textsOf(x.texts...)
		if x.want == api.OK {
			if list, e := picture.Blocks(dot(false), 0, payload); len(list) != 3 || e != api.OK {
				t.Fatal(list, e)
			}
		} else {
			refusesBlocks(t, dot(false), 0, payload, x.want)
		}
		if len(x.texts) != 3 {
			continue
		}
		// Whatever slice would say: a byte behind, or one short, is told first.
		for _, behind := range [][]byte{{0}, {1}, {0, 0}, {0, 0, 0, 0}, good} {
			refusesBlocks(t, dot(false), 0, append(bytes.Clone(payload), behind...), api.ErrPictureLength)
		}
		for n := range payload {
			refusesBlocks(t, dot(false), 0, payload[:n], api.ErrPictureLength)
		}
	}
	refusesBlocks(t, dot(true), 0, textsOf(good, good, good), api.ErrPictureLength)
	refusesBlocks(t, dot(true), 0, textsOf(good, good, good, form), api.ErrSliceForm)
	refusesBlocks(t, dot(true), 0, textsOf(good, good, good, long), api.ErrSliceLong)
}

// The three bytes count the highest first, and count to 16777215.
func TestBlocksLengthsOfThreeBytes(t *testing.T) {
	much := make([]byte, 16777215)
	copy(much, good)
	refusesBlocks(t, dot(false), 0, textsOf(much, good, good), api.ErrSliceLong)
	refusesBlocks(t, dot(false), 0, textsOf(good, good, much), api.ErrSliceLong)
	refusesBlocks(t, dot(false), 0, append([]byte{255, 255, 255}, much[1:]...), api.ErrPictureLength)
	refusesBlocks(t, dot(false), 0, append([]byte{2, 0, 0}, textsOf(good, good, good)[3:]...), api.ErrPictureLength)
	for _, n := range []int{255, 256, 257, 65535, 65536, 65537} {
		refusesBlocks(t, dot(false), 0, textsOf(good, much[:n], good), api.ErrSliceLong)
	}
}

// Of a frame's payloads each beginning is refused, and each with bytes behind.
func TestBlocksNoMoreNoLess(t *testing.T) {
	for _, w := range ways() {
		if len(w.frame.Planes[0]) > 1000 {
			continue
		}
		x := at(t, w.frame, w.config, 0)
		h, list := opened(t, x.Bytes)
		for k := range h.Slices {
			payload := bytesOf(x.Bytes, list[k])
			for n := range payload {
				refusesBlocks(t, h, k, payload[:n:n], api.ErrPictureLength)
			}
			for _, behind := range [][]byte{{0}, {255}, {0, 0, 0}} {
				refusesBlocks(t, h, k, append(bytes.Clone(payload), behind...), api.ErrPictureLength)
			}
		}
	}
}

// No sum is looked at: a payload that the table says otherwise of is read as what it is.
func TestBlocksLooksAtNoSum(t *testing.T) {
	f := ramp(square)
	x := at(t, f, plain, 0)
	h, _ := opened(t, x.Bytes)
	other, e := picture.Payload(noise(square, new(chance)), plain, api.Rung{}, 0)
	if e != api.OK {
		t.Fatal(e)
	}
	want, _ := blocksOf(h, 0, other)
	if list, e := picture.Blocks(h, 0, other); !sameBlocks(list, want) || e != api.OK {
		t.Error(e)
	}
}

// P12.5: payloads that were spoilt in any way, and heads of others: what the chapter's words tell.
func TestP12_5AnyPayloads(t *testing.T) {
	c := chance(1255)
	all := ways()
	told := map[api.Errno]int{}
	var heads []api.Head
	var payloads [][]byte
	for _, w := range all {
		if len(w.frame.Planes[0]) > 300 {
			continue
		}
		x := at(t, w.frame, w.config, c.below(len(w.config.Ladder)))
		h, list := opened(t, x.Bytes)
		heads, payloads = append(heads, h), append(payloads, bytesOf(x.Bytes, list[c.below(h.Slices)]))
	}
	for range 6000 {
		h, payload := heads[c.below(len(heads))], bytes.Clone(payloads[c.below(len(payloads))])
		for range c.below(4) {
			switch i := c.below(len(payload)); c.below(3) {
			case 0:
				payload[i] ^= 1 << c.below(8)
			case 1:
				payload = slices.Insert(payload, i, byte(c.below(256)))
			default:
				payload[i] = byte(c.below(256))
			}
		}
		k := c.below(h.Slices)
		want, errno := blocksOf(h, k, payload)
		list, e := picture.Blocks(h, k, payload)
		if !sameBlocks(list, want) || e != errno {
			t.Fatal(h, k, payload, e, errno)
		}
		told[e]++
		for p, b := range list {
			r := part(p, rects(h.Shape, h.SliceW, h.SliceH)[k])
			if b.W != r.W || b.H != r.H || len(b.Samples) != r.W*r.H || slices.Max(b.Samples) >= 1<<h.Shape.Depth {
				t.Fatal(h, k, p, b)
			}
		}
	}
	if told[api.OK] < 100 || told[api.ErrPictureLength] < 100 || told[api.ErrSliceForm] < 100 {
		t.Error("not all is told often enough", told)
	}
}

// P12.1: blocks are what slice settles the frame's parts as, by each plane's own tolerance.
func TestP12_1BlocksAreSettled(t *testing.T) {
	for _, w := range ways() {
		for step, rung := range w.config.Ladder {
			x := at(t, w.frame, w.config, step)
			h, list := opened(t, x.Bytes)
			for k, r := range rects(h.Shape, h.SliceW, h.SliceH) {
				blocks, e := picture.Blocks(h, k, bytesOf(x.Bytes, list[k]))
				if e != api.OK {
					t.Fatal(w.frame.Shape, w.config, step, k, e)
				}
				var want []api.Block
				for p := range count(h.Shape) {
					in := block(w.frame, p, part(p, r))
					b, e := slice.Settle(in, h.Shape.Depth, rung[p])
					if e != api.OK {
						t.Fatal(e)
					}
					for i, v := range in.Samples {
						if far := int(v) - int(blocks[p].Samples[i]); far > rung[p] || -far > rung[p] {
							t.Fatal(w.frame.Shape, w.config, step, k, p, i, far)
						}
					}
					want = append(want, b)
				}
				if !sameBlocks(blocks, want) {
					t.Fatal(w.frame.Shape, w.config, step, k)
				}
			}
		}
	}
}
