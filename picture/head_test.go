package picture_test

import (
	"bytes"
	"math"
	"testing"

	"dailies/api"
	"dailies/picture"
)

// rightHead is one of six slices and one parity row.
var rightHead = api.Head{Shape: wideA, SliceW: 16, SliceH: 16, Rung: api.Rung{1, 2, 3, 4}, Slices: 6, Parity: 1, Length: 1000}

// wrongHeads are rightHead, but for one thing each.
func wrongHeads() []api.Head {
	var list []api.Head
	add := func(change func(h *api.Head)) {
		h := rightHead
		change(&h)
		list = append(list, h)
	}
	for _, s := range append(wrongShapes(), api.Shape{Width: 49, Height: 32, Depth: 12, Alpha: true}, api.Shape{Width: 48, Height: 33, Depth: 12, Alpha: true}, api.Shape{Width: 48, Height: 32, Depth: 12}) {
		add(func(h *api.Head) { h.Shape = s }) // the last ones have other slices, or no Alpha
	}
	for _, n := range append(odd(), 0, 14, 15, 17, 4095, 4097, 4098, 65536+16) {
		add(func(h *api.Head) { h.SliceW = n })
		if n != 17 && n != 4095 {
			add(func(h *api.Head) { h.SliceH = n })
		}
	}
	add(func(h *api.Head) { h.SliceW = 24 }) // of two columns
	add(func(h *api.Head) { h.SliceH = 4096 })
	for p := range 4 {
		for _, d := range append(odd(), 64, 255, 256) {
			add(func(h *api.Head) { h.Rung[p] = d })
		}
	}
	for _, n := range append(odd(), 0, 1, 5, 7, 1<<32+6) {
		add(func(h *api.Head) { h.Slices = n })
	}
	for _, n := range append(odd(), 17, 255, 256, 257) {
		add(func(h *api.Head) { h.Parity = n })
	}
	for _, n := range append(odd(), 0, 31, 32, 32+55, 134217728, 134217729) {
		add(func(h *api.Head) { h.Length = n })
	}
	add(func(h *api.Head) { *h = api.Head{} })
	for _, p := range []int{1, 16} {
		add(func(h *api.Head) {
			*h = api.Head{Shape: shape201, SliceW: 16, SliceH: 16, Slices: 201, Parity: p, Length: 5000}
		})
	}
	return list
}

// rightHeads stand at the edges.
func rightHeads() []api.Head {
	list := []api.Head{rightHead}
	add := func(change func(h *api.Head)) {
		h := rightHead
		change(&h)
		list = append(list, h)
	}
	for _, n := range []int{32 + 56, 32 + 57, 134217726, 134217727} {
		add(func(h *api.Head) { h.Length = n })
	}
	for _, n := range []int{0, 1, 15, 16} {
		add(func(h *api.Head) { h.Parity = n })
	}
	for p := range 4 {
		for _, d := range []int{0, 1, 63} {
			add(func(h *api.Head) { h.Rung[p] = d })
		}
	}
	add(func(h *api.Head) { h.SliceW, h.SliceH, h.Slices = 4096, 4096, 1 })
	add(func(h *api.Head) { h.SliceW, h.SliceH = 22, 17 })
	add(func(h *api.Head) { h.Shape.Alpha, h.Rung[api.Alpha] = false, 0 })
	add(func(h *api.Head) { h.Shape.Depth = 10 })
	return append(list,
		api.Head{Shape: api.Shape{Width: 1, Height: 1, Depth: 10}, SliceW: 16, SliceH: 16, Slices: 1, Length: 44},
		api.Head{Shape: shape200, SliceW: 16, SliceH: 16, Slices: 200, Parity: 16, Length: 32 + 1600 + 64 + 4},
		api.Head{Shape: shape201, SliceW: 16, SliceH: 16, Slices: 201, Length: 32 + 1608 + 4},
		api.Head{Shape: api.Shape{Width: 4096, Height: 512, Depth: 12}, SliceW: 16, SliceH: 16, Slices: 8192, Length: 32 + 65536 + 4},
		api.Head{Shape: api.Shape{Width: 1, Height: 4096, Depth: 12}, SliceW: 4096, SliceH: 16, Slices: 256, Length: 99999},
	)
}

func TestHeadReads(t *testing.T) {
	for _, h := range rightHeads() {
		b := headOf(h)
		if len(b) != 32 || !headIs(h) {
			t.Fatal(h, len(b))
		}
		for _, behind := range [][]byte{nil, {0}, {1, 2, 3}, b, make([]byte, 5000)} {
			if got, e := picture.Head(append(bytes.Clone(b), behind...)); got != h || e != api.OK {
				t.Error(h, got, e)
			}
		}
		for n := range b {
			if got, e := picture.Head(b[:n]); got != (api.Head{}) || e != api.ErrPictureHead {
				t.Error(n, got, e)
			}
		}
	}
	for _, b := range [][]byte{nil, {}, make([]byte, 31), make([]byte, 32), make([]byte, 100), bytes.Repeat([]byte{255}, 32)} {
		if got, e := picture.Head(b); got != (api.Head{}) || e != api.ErrPictureHead {
			t.Error(len(b), got, e)
		}
	}
}

// Heads that are not right are refused, though their sum is; so it is asked field by field.
func TestHeadRefusesWhatIsNotRight(t *testing.T) {
	fits := func(n, bytes int) bool { return n >= 0 && n < 1<<(8*bytes) }
	tried := 0
	for _, h := range wrongHeads() {
		all := fits(h.Shape.Width, 2) && fits(h.Shape.Height, 2) && fits(h.Shape.Depth, 1) && fits(h.SliceW, 2) && fits(h.SliceH, 2) && fits(h.Slices, 4) && fits(h.Parity, 1) && fits(h.Length, 4)
		for _, d := range h.Rung {
			all = all && fits(d, 1)
		}
		if headIs(h) {
			t.Fatal(h)
		}
		if !all { // no bytes say so
			continue
		}
		tried++
		if got, e := picture.Head(headOf(h)); got != (api.Head{}) || e != api.ErrPictureHead {
			t.Error(h, got, e)
		}
	}
	if tried < 40 {
		t.Error("hardly any head", tried)
	}
}

// Every byte of a head by every number, the sum being right: only what the chapter allows is taken.
func TestHeadEachByteResummed(t *testing.T) {
	taken := 0
	for _, h := range rightHeads() {
		b := headOf(h)
		for place := range 28 {
			for v := range 256 {
				x := bytes.Clone(b)
				x[place] = byte(v)
				x = resummed(x)
				got, e := picture.Head(x)
				want := api.Head{
					Shape:  api.Shape{Width: int(big.Uint16(x[4:])), Height: int(big.Uint16(x[6:])), Depth: int(x[8]), Alpha: x[9] == 1},
					SliceW: int(big.Uint16(x[10:])), SliceH: int(big.Uint16(x[12:])),
					Rung:   api.Rung{int(x[14]), int(x[15]), int(x[16]), int(x[17])},
					Slices: int(big.Uint32(x[18:])), Parity: int(x[22]), Length: int(big.Uint32(x[24:])),
				}
				if string(x[:4]) != "DLY1" || x[9] > 1 || x[23] != 0 || !headIs(want) {
					if got != (api.Head{}) || e != api.ErrPictureHead {
						t.Fatal(place, v, got, e)
					}
					continue
				}
				taken++
				if got != want || e != api.OK {
					t.Fatal(place, v, got, want, e)
				}
			}
		}
	}
	if taken < 1000 {
		t.Error("hardly any head is taken", taken)
	}
}

// P12.6: whatever becomes of bytes within four that stand side by side.
func TestP12_6SpoiltHeadsAreNone(t *testing.T) {
	c := chance(126)
	refuses := func(b []byte) {
		t.Helper()
		if got, e := picture.Head(b); got != (api.Head{}) || e != api.ErrPictureHead {
			t.Fatal(b, got, e)
		}
	}
	for _, h := range rightHeads() {
		b := headOf(h)
		for place := range b {
			for v := range 256 {
				if x := bytes.Clone(b); byte(v) != x[place] {
					x[place] = byte(v)
					refuses(x)
				}
			}
		}
		for place := range len(b) - 3 {
			for range 200 {
				x := bytes.Clone(b)
				for i := range 4 {
					x[place+i] = byte(c.below(256))
				}
				if !bytes.Equal(x, b) {
					refuses(x)
				}
			}
		}
	}
}

func TestTableSize(t *testing.T) {
	if n := picture.TableSize(rightHead); n != 56 {
		t.Error(n)
	}
	if n := picture.TableSize(api.Head{}); n != 0 {
		t.Error(n)
	}
	for _, h := range rightHeads() {
		if n := picture.TableSize(h); n != 8*h.Slices+4*h.Parity+4 {
			t.Error(h, n)
		}
	}
	for _, h := range wrongHeads() {
		if n := picture.TableSize(h); n != 0 {
			t.Error(h, n)
		}
	}
}

func TestPinned(t *testing.T) {
	for _, h := range rightHeads() {
		c := picture.Pinned(h)
		if c.SliceW != h.SliceW || c.SliceH != h.SliceH || len(c.Ladder) != 1 || c.Ladder[0] != h.Rung || c.Cap != 0 || c.Parity != h.Parity {
			t.Error(h, c)
		}
		if e := picture.Valid(c, h.Shape); e != api.OK {
			t.Error(h, c, e)
		}
	}
	for _, h := range wrongHeads() {
		if c := picture.Pinned(h); c.SliceW != 0 || c.SliceH != 0 || len(c.Ladder) != 0 || c.Cap != 0 || c.Parity != 0 {
			t.Error(h, c)
		}
	}
}

// P1: heads of any numbers.
func TestAnyHeads(t *testing.T) {
	c := chance(9)
	numbers := append(odd(), 0, 1, 6, 10, 12, 16, 17, 32, 48, 63, 64, 88, 1000, 4096, 4097, 134217727, 134217728, math.MaxInt32)
	for range 20000 {
		h := rightHead
		for _, field := range []*int{&h.Shape.Width, &h.Shape.Height, &h.Shape.Depth, &h.SliceW, &h.SliceH, &h.Rung[0], &h.Rung[3], &h.Slices, &h.Parity, &h.Length} {
			if c.below(4) == 0 {
				*field = numbers[c.below(len(numbers))]
			}
		}
		h.Shape.Alpha = c.below(2) == 0
		size := 0
		if headIs(h) {
			size = 8*h.Slices + 4*h.Parity + 4
		}
		if n := picture.TableSize(h); n != size {
			t.Fatal(h, n, size)
		}
		if got := picture.Pinned(h); (len(got.Ladder) == 1) != (size > 0) {
			t.Fatal(h, got)
		}
		if list, e := picture.Table(h, nil); len(list) != 0 || size == 0 && e != api.ErrPictureHead || size > 0 && e != api.ErrPictureTable {
			t.Fatal(h, e)
		}
		if list, e := picture.Blocks(h, 0, nil); len(list) != 0 || size == 0 && e != api.ErrPictureHead || size > 0 && e != api.ErrPictureLength {
			t.Fatal(h, e)
		}
	}
}
