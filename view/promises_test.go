package view_test

import (
	"bytes"
	"math"
	"slices"
	"testing"

	"dailies/api"
	"dailies/picture"
	"dailies/plane"
	"dailies/view"
)

// P13.1, V3 to V5, T1: of records of all kinds all slices are sound, and what comes back is what slice settles, within the tolerance; slices and regions are its parts.
func TestP13_1WhatPictureMade(t *testing.T) {
	c := chance(131)
	for _, w := range ways() {
		record, h, _ := coded(t, w)
		want := settled(t, w)
		for _, a := range askings(h, &c) {
			x, _ := check(t, record, a, -1, 0)
			if x.errno != api.OK || slices.Max(x.report.Marks) != api.Sound || x.report.Head != h {
				t.Fatal(h, a, x.errno, x.report)
			}
			switch a.what {
			case whole:
				if !plane.Same(x.frame, want) {
					t.Fatal(h, "another frame")
				}
				if len(x.report.Slices) != h.Slices || x.report.Slices[h.Slices-1] != h.Slices-1 {
					t.Fatal(x.report.Slices)
				}
			case one:
				for p, b := range x.blocks {
					r := part(p, rects(h.Shape, h.SliceW, h.SliceH)[a.k])
					if crop, e := plane.Crop(want, p, r); !sameBlocks([]api.Block{crop}, []api.Block{b}) || e != api.OK {
						t.Fatal(h, a, p, e)
					}
				}
				if len(x.blocks) != count(h.Shape) {
					t.Fatal(h, a)
				}
			case region:
				if cut, e := plane.Cut(want, a.r); !plane.Same(x.frame, cut) || e != api.OK {
					t.Fatal(h, a, e)
				}
			}
		}
		far, e := plane.Apart(w.frame, want)
		for p, d := range far {
			if d > h.Rung[p] || e != api.OK {
				t.Fatal(h, far, e)
			}
		}
	}
}

// T1: by any limit that is not below its samples.
func TestT1AnyLimit(t *testing.T) {
	for _, w := range ways() {
		record, h, _ := coded(t, w)
		n := samples(h.Shape, all(h.Shape))
		want := settled(t, w)
		for _, limit := range []int{n, n + 1, 4194303, 4194304} {
			if f, _, e := view.Whole(view.Of(record), limit); !plane.Same(f, want) || e != api.OK {
				t.Fatal(h, limit, e)
			}
		}
		for _, limit := range []int{0, n - 1} {
			if f, _, e := view.Whole(view.Of(record), limit); len(f.Planes) != 0 || e != api.ErrLimit {
				t.Fatal(h, limit, e)
			}
		}
	}
}

// T2: what was looked at, coded again, is the record; so is every later generation.
func TestT2Again(t *testing.T) {
	for _, w := range ways() {
		record, h, _ := coded(t, w)
		for range 3 {
			f, r, e := view.Whole(view.Of(record), samples(h.Shape, all(h.Shape)))
			if e != api.OK {
				t.Fatal(h, e)
			}
			c := picture.Pinned(r.Head)
			c.Cap = len(record)
			x, e := picture.Encode(f, c)
			if !bytes.Equal(x.Bytes, record) || e != api.OK {
				t.Fatal(h, e)
			}
		}
	}
}

// T4, P13.2: whatever is written over within one payload frees that slice alone; without parity it is lost, and noughts, if its sum tells it; four bytes side by side are always told.
func TestT4SlicesApart(t *testing.T) {
	c := chance(44)
	for _, w := range ways() {
		w.config.Parity = 0
		record, h, list := coded(t, w)
		n := samples(h.Shape, all(h.Shape))
		want, _, _ := view.Whole(view.Of(record), n)
		for range 12 {
			k := c.below(h.Slices)
			b := bytes.Clone(record)
			at, many := c.below(list[k].Length), 1+c.below(4)
			for i := at; i < min(at+many, list[k].Length); i++ {
				b[list[k].At+i] = byte(c.below(256))
			}
			if bytes.Equal(b, record) {
				continue
			}
			x, reads := check(t, b, asking{what: whole, limit: n}, -1, 0)
			if len(reads) != 2+h.Slices {
				t.Fatal(h, k, reads)
			}
			for i, m := range x.report.Marks {
				if (i == k) != (m == api.Lost) || m == api.Mended {
					t.Fatal(h, k, at, many, x.report.Marks)
				}
				r := rects(h.Shape, h.SliceW, h.SliceH)[i]
				part := cutOf(want, r)
				if i == k {
					part = flat(part.Shape, 0)
				}
				if !plane.Same(cutOf(x.frame, r), part) {
					t.Fatal(h, k, i)
				}
			}
		}
	}
}

// A payload written over by another one of the same length whose sum is its own is told as what it is: no slice beside it is touched.
func TestP13_2AnyBytesInOnePayload(t *testing.T) {
	c := chance(132)
	record, h, list := shown(t)
	n := samples(h.Shape, all(h.Shape))
	for range 300 {
		b := bytes.Clone(record)
		k := c.below(h.Slices)
		for range 1 + c.below(40) {
			b[list[k].At+c.below(list[k].Length)] = byte(c.below(256))
		}
		x, _ := check(t, b, asking{what: whole, limit: n}, -1, 0)
		for i, m := range x.report.Marks {
			if i != k && m != api.Sound || i == k && m != api.Mended && !bytes.Equal(b, record) {
				t.Fatal(k, x.report.Marks)
			}
		}
	}
}

// T6, P13.4: bytes that were written over anywhere, cut off or drawn out, heads and tables with sums that are right again, any limits.
func TestT6AnyBytes(t *testing.T) {
	c := chance(66)
	var records [][]byte
	var heads []api.Head
	for _, w := range ways() {
		if len(w.frame.Planes[0]) <= 1000 {
			b, h, _ := coded(t, w)
			records, heads = append(records, b), append(heads, h)
		}
	}
	told := map[api.Errno]int{}
	marks := map[api.Mark]int{}
	for range 6000 {
		i := c.below(len(records))
		b, h := bytes.Clone(records[i]), heads[i]
		size := picture.TableSize(h)
		for range c.below(4) {
			switch c.below(5) {
			case 0:
				b[c.below(32)] ^= 1 << c.below(8)
				resum(b[:32])
			case 1:
				b[32+c.below(size)] ^= 1 << c.below(8)
				resum(b[32 : 32+size])
			case 2:
				b[c.below(len(b))] = byte(c.below(256))
			case 3: // two payloads' lengths, so that their sum stays
				one, two := 32+8*c.below(h.Slices)+3, 32+8*c.below(h.Slices)+3
				b[one], b[two] = b[one]+1, b[two]-1
				resum(b[32 : 32+size])
			default:
				at := 32 + size
				b[at+c.below(len(b)-at)] ^= 1 << c.below(8)
			}
		}
		switch c.below(20) {
		case 0:
			b = b[:c.below(len(b))]
		case 1:
			b = append(b, 0)
		}
		n := samples(h.Shape, all(h.Shape))
		a := asking{what: c.below(3), limit: []int{n, n, n, n - 1, 0, 4194304}[c.below(6)], k: c.below(h.Slices)}
		a.r = rects(h.Shape, h.SliceW, h.SliceH)[a.k]
		x, _ := check(t, b, a, -1, 0)
		told[x.errno]++
		for _, m := range x.report.Marks {
			marks[m]++
		}
	}
	for _, e := range []api.Errno{api.OK, api.ErrLimit, api.ErrPictureHead, api.ErrPictureTable, api.ErrPictureLength} {
		if told[e] < 30 {
			t.Error("not all is told often enough", told)
		}
	}
	if marks[api.Sound] < 100 || marks[api.Mended] < 30 || marks[api.Lost] < 30 {
		t.Error("slices do not stand in all ways often enough", marks)
	}
}

// Bytes of which none was ever a record.
func TestP13_4BytesByChance(t *testing.T) {
	c := chance(134)
	for range 3000 {
		b := make([]byte, c.below(200))
		for i := range b {
			b[i] = byte(c.below(256))
		}
		if len(b) >= 32 && c.below(2) == 0 {
			copy(b, "DLY1")
			resum(b[:32])
		}
		check(t, b, asking{what: c.below(3), limit: c.below(4194305), r: api.Rect{W: 2, H: 2}}, -1, 0)
	}
}

// T6: a shape above the limit is refused ahead of all that stands behind its head, whatever that is.
func TestT6AboveTheLimit(t *testing.T) {
	h := api.Head{Shape: api.Shape{Width: 2048, Height: 1024, Depth: 12}, SliceW: 16, SliceH: 16, Slices: 8192, Length: 134217727}
	for _, b := range [][]byte{headOf(h), append(headOf(h), 1, 2, 3)} {
		for _, a := range []asking{{what: whole}, {what: one, k: -1}, {what: region}} {
			for _, limit := range []int{0, 1, 4194303} {
				a.limit = limit
				src := tapOf(b)
				if x := a.of(src); !x.is(answer{errno: api.ErrLimit}) || !slices.Equal(src.reads, []api.Span{{Length: 32}}) {
					t.Error(a, x.errno, src.reads)
				}
			}
		}
		if x := (asking{what: whole, limit: 4194304}).of(view.Of(b)); x.errno != api.ErrPictureLength {
			t.Error(x.errno)
		}
	}
}

// The greatest frame, in as many slices as there are: the limit is just its samples.
func TestTheGreatestFrame(t *testing.T) {
	s := api.Shape{Width: 2048, Height: 1024, Depth: 12}
	f := frameOf(s, func(p, x, y int) int { return 16*(x/64+y/32) + p })
	record, h, list := coded(t, way{f, api.Config{SliceW: 16, SliceH: 16, Ladder: []api.Rung{{}}}})
	src := tapOf(record)
	got, r, e := view.Whole(src, 4194304)
	if !plane.Same(got, f) || e != api.OK || len(src.reads) != 8194 || slices.Max(r.Marks) != api.Sound {
		t.Fatal(e, len(src.reads))
	}
	if r.Given != h.Length+4*4194304 {
		t.Error(r.Given)
	}
	if _, _, e := view.Whole(tapOf(record), 4194303); e != api.ErrLimit {
		t.Error(e)
	}
	last := api.Rect{X: 2032, Y: 1008, W: 16, H: 16}
	cut, r, e := view.Region(tapOf(record), last, 4194304)
	if want, _ := plane.Cut(f, last); !plane.Same(cut, want) || e != api.OK || r.Given != 32+8*8192+4+list[8191].Length+2*2*512 {
		t.Error(r, e)
	}
	b := spoilt(record, list, 0, 4000, 8191)
	got, r, _ = view.Whole(view.Of(b), 4194304)
	lost := 0
	for k, m := range r.Marks {
		if (m == api.Lost) != (k == 0 || k == 4000 || k == 8191) {
			t.Fatal(k, m)
		}
		if m == api.Lost {
			lost++
		}
	}
	if apart, _ := plane.Apart(got, f); lost != 3 || apart == (api.Rung{}) {
		t.Error(lost, apart)
	}
}

// P13.4, V6: Given comes near Bound where all is read, and all that is read is worked out: by no record it is above.
func TestV6GivenIsNeverAboveBound(t *testing.T) {
	s := api.Shape{Width: 1, Height: 1, Depth: 10}
	for _, n := range []int{0, 1, 9, 100, 16777215} {
		for _, p := range []int{0, 1, 16} {
			if n > 100 && p == 16 {
				continue // a record has no room for it
			}
			c := api.Config{SliceW: 16, SliceH: 16, Ladder: []api.Rung{{}}, Parity: p}
			record, h, list := assembled(t, s, c, [][]byte{make([]byte, n)})
			b := spoilt(record, list, 0)
			x, _ := check(t, b, asking{what: whole, limit: 3}, -1, 0)
			want := 32 + picture.TableSize(h) + n + 4*3
			if p > 0 && n > 0 {
				want += p*n + n
			}
			if x.report.Given != want || x.errno != api.OK {
				t.Error(n, p, x.report.Given, want, x.errno)
			}
		}
	}
}

// P1: any numbers at once.
func TestP1AnyNumbers(t *testing.T) {
	record, _, _ := shown(t)
	numbers := append(odd(), 0, 1, 2, 8, 51)
	c := chance(1)
	pick := func() int { return numbers[c.below(len(numbers))] }
	for range 3000 {
		a := asking{what: c.below(3), k: pick(), r: api.Rect{X: pick(), Y: pick(), W: pick(), H: pick()}, limit: 4194304}
		if c.below(3) == 0 {
			a.limit = pick()
		}
		check(t, record, a, -1, 0)
	}
	_, _, e := view.Region(view.Of(record), api.Rect{X: math.MaxInt - 1, Y: 0, W: math.MaxInt, H: 1}, 4194304)
	if e != api.ErrViewRegion {
		t.Error(e)
	}
}
