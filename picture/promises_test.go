package picture_test

import (
	"bytes"
	"math"
	"slices"
	"testing"

	"dailies/api"
	"dailies/crc"
	"dailies/parity"
	"dailies/picture"
	"dailies/plane"
)

// readAgain says that P12.1 holds of a record that was made of these payloads.
func readAgain(t *testing.T, record []byte, s api.Shape, c api.Config, rung api.Rung, payloads [][]byte) {
	t.Helper()
	h, list := opened(t, record)
	want := api.Head{Shape: s, SliceW: c.SliceW, SliceH: c.SliceH, Rung: rung, Slices: len(payloads), Parity: c.Parity, Length: len(record)}
	if h != want || !headIs(h) {
		t.Fatal(h, want)
	}
	rows, _ := parity.Make(payloads, c.Parity)
	at := 32 + picture.TableSize(h)
	for k, b := range slices.Concat(payloads, rows) {
		if list[k].At != at || list[k].Length != len(b) || list[k].Sum != crc.Sum(b) || !bytes.Equal(bytesOf(record, list[k]), b) {
			t.Fatal(h, k, list[k])
		}
		at += len(b)
	}
	if len(list) != len(payloads)+c.Parity || at != len(record) {
		t.Fatal(h, list, at)
	}
}

func TestP12_1ReadAgain(t *testing.T) {
	for _, w := range ways() {
		for step, rung := range w.config.Ladder {
			readAgain(t, at(t, w.frame, w.config, step).Bytes, w.frame.Shape, w.config, rung, payloadsOf(t, w.frame, w.config, rung))
		}
		x, e := picture.Encode(w.frame, w.config)
		if e != api.OK || x.Step != 0 {
			t.Fatal(w.frame.Shape, w.config, e)
		}
		rung := w.config.Ladder[0]
		readAgain(t, x.Bytes, w.frame.Shape, w.config, rung, payloadsOf(t, w.frame, w.config, rung))
		payloads := make([][]byte, len(rects(w.frame.Shape, w.config.SliceW, w.config.SliceH)))
		payloads[len(payloads)-1] = []byte("any")
		b, e := picture.Assemble(w.frame.Shape, w.config, rung, payloads)
		if e != api.OK {
			t.Fatal(e)
		}
		readAgain(t, b, w.frame.Shape, w.config, rung, payloads)
	}
}

// again says that P12.2 holds of a record.
func again(t *testing.T, record []byte) {
	t.Helper()
	h, _ := opened(t, record)
	y := pasted(t, record)
	c := picture.Pinned(h)
	if x := at(t, y, c, 0); !bytes.Equal(x.Bytes, record) || x.Rung != h.Rung {
		t.Fatal(h, "is another one")
	}
	bound, _ := picture.Bound(h.Shape, c)
	for _, n := range []int{0, len(record), len(record) + 1, bound, math.MaxInt} {
		c.Cap = n
		x, e := picture.Encode(y, c)
		if !bytes.Equal(x.Bytes, record) || x.Step != 0 || x.Rung != h.Rung || e != api.OK {
			t.Fatal(h, n, "is another one", e)
		}
	}
	c.Cap = len(record) - 1
	if x, e := picture.Encode(y, c); !nothingCoded(x) || e != api.ErrCap {
		t.Fatal(h, e)
	}
	if !plane.Same(pasted(t, at(t, y, picture.Pinned(h), 0).Bytes), y) {
		t.Fatal(h, "drifts")
	}
}

func TestP12_2Again(t *testing.T) {
	for _, w := range ways() {
		for step := range w.config.Ladder {
			if step%4 == 0 || step == len(w.config.Ladder)-1 {
				again(t, at(t, w.frame, w.config, step).Bytes)
			}
		}
	}
}

// climbed says that T3 and P12.3 hold of a frame by a configuration, whatever its cap is.
func climbed(t *testing.T, f api.Frame, c api.Config) {
	t.Helper()
	bound, e := picture.Bound(f.Shape, c)
	if e != api.OK {
		t.Fatal(e)
	}
	var made []api.Coded
	caps := []int{0, 1, 43, 44, bound - 1, bound, bound + 1, math.MaxInt}
	for step := range c.Ladder {
		x := at(t, f, c, step)
		if len(x.Bytes) > bound {
			t.Fatal(f.Shape, c, step, len(x.Bytes), bound)
		}
		made = append(made, x)
		caps = append(caps, len(x.Bytes)-1, len(x.Bytes), len(x.Bytes)+1)
	}
	for _, most := range caps {
		c.Cap = most
		want, errno := api.Coded{}, api.ErrCap
		for _, x := range slices.Backward(made) {
			if len(x.Bytes) <= most || most == 0 {
				want, errno = x, api.OK
			}
		}
		x, e := picture.Encode(f, c)
		if !bytes.Equal(x.Bytes, want.Bytes) || x.Step != want.Step || x.Rung != want.Rung || e != errno {
			t.Fatalf("%v, %v: step %d, %d bytes, %v; want step %d, %d bytes, %v", f.Shape, c, x.Step, len(x.Bytes), e, want.Step, len(want.Bytes), errno)
		}
		if most >= bound && (e != api.OK || x.Step != 0) {
			t.Fatal(f.Shape, c, e)
		}
	}
}

func TestT3AndP12_3Ladder(t *testing.T) {
	for _, w := range ways() {
		climbed(t, w.frame, w.config)
	}
	// Rungs that do not rise: the first one that keeps to the cap is told, not the shortest.
	c := chance(3)
	for _, ladder := range [][]api.Rung{
		{{20, 20, 20}, {0, 0, 0}, {40, 40, 40}, {20, 20, 20}},
		{{0, 0, 0}, {63, 63, 63}, {1, 1, 1}},
		{{5, 5, 5}, {5, 5, 5}},
	} {
		for _, f := range []api.Frame{mixed(api.Shape{Width: 50, Height: 40, Depth: 10}, &c), ramp(api.Shape{Width: 50, Height: 40, Depth: 12})} {
			for _, p := range []int{0, 2} {
				climbed(t, f, api.Config{SliceW: 16, SliceH: 32, Ladder: ladder, Parity: p})
			}
		}
	}
}

// By a ladder whose records are shorter and shorter each step is told by some cap.
func TestT3EachStepIsReached(t *testing.T) {
	f := frameOf(api.Shape{Width: 64, Height: 64, Depth: 12}, func(p, x, y int) int { return 2000 + (x*x*7+y*y*3+p)%97 })
	c := api.Config{SliceW: 16, SliceH: 16, Parity: 2}
	for i := range 16 {
		c.Ladder = append(c.Ladder, api.Rung{3 * i, 3 * i, 3 * i})
	}
	for step := range c.Ladder {
		c.Cap = len(at(t, f, c, step).Bytes)
		x, e := picture.Encode(f, c)
		if x.Step != step || x.Rung != c.Ladder[step] || len(x.Bytes) != c.Cap || e != api.OK {
			t.Error(step, x.Step, e)
		}
	}
}

// P12.3: noise is told raw in all slices, so that its record is just as long as Bound.
func TestP12_3BoundIsReached(t *testing.T) {
	c := chance(33)
	for _, s := range []api.Shape{square, wideA, {Width: 1, Height: 1, Depth: 10}, {Width: 51, Height: 37, Depth: 12}, {Width: 35, Height: 18, Depth: 10, Alpha: true}} {
		f := noise(s, &c)
		if s.Width == 1 {
			f = flat(s, 1023) // its coded bytes are longer
		}
		for _, p := range []int{0, 1, 16} {
			k := with(plain, func(k *api.Config) { k.Parity = p })
			bound, _ := picture.Bound(s, k)
			if x := at(t, f, k, 0); len(x.Bytes) != bound {
				t.Error(s, p, len(x.Bytes), bound)
			}
		}
	}
}

// P12.4, T4: what a payload hangs on: frames that agree on a slice have the same payload there, whatever else is.
func TestP12_4PayloadHangsOnItsSliceAlone(t *testing.T) {
	c := chance(124)
	for _, s := range []api.Shape{{Width: 51, Height: 40, Depth: 10}, {Width: 48, Height: 33, Depth: 12, Alpha: true}} {
		f := mixed(s, &c)
		rung := api.Rung{3, 1, 2}
		for k, r := range rects(s, 16, 16) {
			want, e := picture.Payload(f, plain, rung, k)
			if e != api.OK {
				t.Fatal(e)
			}
			g := noise(s, &c)
			for p := range g.Planes {
				q := part(p, r)
				for i := range q.W * q.H {
					place := (q.Y+i/q.W)*wide(s, p) + q.X + i%q.W
					g.Planes[p][place] = f.Planes[p][place]
				}
			}
			other := api.Config{SliceW: 16, SliceH: 16, Ladder: ladderOf(7), Cap: 99, Parity: 5}
			if b, e := picture.Payload(g, other, rung, k); !bytes.Equal(b, want) || e != api.OK {
				t.Fatal(s, k, "hangs on more than its slice", e)
			}
			// The slice as a frame of its own.
			alone, _ := plane.Cut(f, r)
			if b, e := picture.Payload(alone, api.Config{SliceW: 4096, SliceH: 4096, Ladder: ladderOf(1)}, rung, 0); !bytes.Equal(b, want) || e != api.OK {
				t.Fatal(s, k, "hangs on where it lies", e)
			}
			// The records of both have it in them.
			record := at(t, g, with(other, func(c *api.Config) { c.Ladder = []api.Rung{rung} }), 0).Bytes
			_, list := opened(t, record)
			if !bytes.Equal(bytesOf(record, list[k]), want) {
				t.Fatal(s, k)
			}
		}
	}
}

// T4: each change of a sample beyond the tolerance is told by its own slice's payload alone.
func TestT4OtherSlicesStay(t *testing.T) {
	s := api.Shape{Width: 50, Height: 33, Depth: 10}
	f := ramp(s)
	before := payloadsOf(t, f, plain, api.Rung{})
	for k, r := range rects(s, 16, 16) {
		for p := range f.Planes {
			g := ramp(s)
			q := part(p, r)
			place := (q.Y+q.H-1)*wide(s, p) + q.X + q.W - 1
			g.Planes[p][place] = 1023 - g.Planes[p][place]
			for i := range before {
				b, e := picture.Payload(g, plain, api.Rung{}, i)
				if bytes.Equal(b, before[i]) != (i != k) || e != api.OK {
					t.Fatal(k, p, i, e)
				}
			}
		}
	}
}

// T4: bytes within four that stand side by side are told by the entry's sum, and no other entry is touched.
func TestT4SumsTellSpoiltPayloads(t *testing.T) {
	c := chance(44)
	record := at(t, ramp(api.Shape{Width: 48, Height: 32, Depth: 10}), with(plain, func(c *api.Config) { c.Parity = 2 }), 0).Bytes
	h, list := opened(t, record)
	whole := pasted(t, record)
	for k, entry := range list {
		for range 100 {
			spoilt := bytes.Clone(record)
			from := entry.At + c.below(entry.Length-3)
			for i := range 4 {
				spoilt[from+i] = byte(c.below(256))
			}
			if bytes.Equal(spoilt, record) {
				continue
			}
			same, entries := opened(t, spoilt)
			if same != h || !slices.Equal(entries, list) {
				t.Fatal("the head or the table hangs on a payload")
			}
			for i, other := range entries {
				if (crc.Sum(bytesOf(spoilt, other)) == other.Sum) != (i != k) {
					t.Fatal(k, i)
				}
			}
			for i, r := range rects(h.Shape, 16, 16) {
				if i == k {
					continue
				}
				blocks, e := picture.Blocks(same, i, bytesOf(spoilt, entries[i]))
				for p, b := range blocks {
					if !sameBlocks([]api.Block{b}, []api.Block{block(whole, p, part(p, r))}) {
						t.Fatal(k, i, p)
					}
				}
				if e != api.OK {
					t.Fatal(k, i, e)
				}
			}
		}
	}
}

// The greatest frames: as many samples as may be, in one slice and in 8192.
func TestGreatestFrames(t *testing.T) {
	c := chance(4096)
	s := api.Shape{Width: 4096, Height: 512, Depth: 12}
	f := frameOf(s, func(p, x, y int) int { return 700 + x/9 + y*2 + c.below(6) })
	for _, k := range []api.Config{
		{SliceW: 16, SliceH: 16, Ladder: []api.Rung{{2, 3, 4}}},
		{SliceW: 4096, SliceH: 4096, Ladder: []api.Rung{{}}, Parity: 16},
	} {
		x := at(t, f, k, 0)
		h, list := opened(t, x.Bytes)
		bound, _ := picture.Bound(s, k)
		if h.Slices+h.Parity != len(list) || len(x.Bytes) > bound {
			t.Fatal(h, len(list), bound)
		}
		y := pasted(t, x.Bytes)
		if far, e := plane.Apart(f, y); e != api.OK || far[0] > k.Ladder[0][0] || far[1] > k.Ladder[0][1] || far[2] > k.Ladder[0][2] {
			t.Fatal(far, e)
		}
		if again := at(t, y, picture.Pinned(h), 0); !bytes.Equal(again.Bytes, x.Bytes) {
			t.Fatal(k, "is another one again")
		}
	}
}
