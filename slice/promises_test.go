package slice_test

import (
	"bytes"
	"testing"

	"dailies/api"
	"dailies/slice"
)

// keeps says that P10.1, P10.2 and P10.3 hold of a block.
func keeps(t *testing.T, b api.Block, depth, d int) {
	t.Helper()
	s, came := encoded(t, b, depth, d), settled(t, b, depth, d)
	if came.W != b.W || came.H != b.H || len(came.Samples) != len(b.Samples) {
		t.Fatal(b, depth, d, came)
	}
	for i, v := range b.Samples {
		n := far(int(v), int(came.Samples[i]))
		if n > d || s[0] == 0 && n > 0 || came.Samples[i] >= 1<<depth {
			t.Fatalf("%v, depth %d, tolerance %d: the sample %d settles as %d", b, depth, d, i, came.Samples[i])
		}
	}
	reads(t, s, depth, d, came)
	if again := encoded(t, came, depth, d); !bytes.Equal(again, s) {
		t.Fatalf("%v, depth %d, tolerance %d: %v, again %v", b, depth, d, s, again)
	}
	if again := settled(t, came, depth, d); !sameBlock(again, came) {
		t.Fatalf("%v, depth %d, tolerance %d: settles as %v, again as %v", b, depth, d, came, again)
	}
	if size, e := slice.RawSize(b.W, b.H, depth); e != api.OK || len(s) > size || s[0] == 1 && len(s) == size || s[0] == 0 && len(s) < size {
		t.Fatalf("%v, depth %d, tolerance %d: %d bytes that begin with %d, raw %d", b, depth, d, len(s), s[0], size)
	}
}

func TestP10_1To3Kinds(t *testing.T) {
	each(func(b api.Block, depth, d int) { keeps(t, b, depth, d) })
}

// By each tolerance that may be: blocks by chance, some of numbers near both ends, where what comes back is cut.
func TestP10_1To3EachTolerance(t *testing.T) {
	c := chance(1001)
	for _, depth := range []int{10, 12} {
		most := 1<<depth - 1
		for d := range 64 {
			for range 60 {
				b := api.Block{W: 1 + c.below(12), H: 1 + c.below(12)}
				base, spread := c.below(2)*most, 1+c.below(6*d+8)
				if c.below(2) == 0 {
					base = c.below(most + 1)
				}
				for range b.W * b.H {
					b.Samples = append(b.Samples, uint16(min(max(base+c.below(2*spread)-spread, 0), most)))
				}
				keeps(t, b, depth, d)
			}
		}
	}
}

// Each sample alone, whose neighbours nobody has coded.
func TestP10_1To3EachSampleAlone(t *testing.T) {
	for v := range 1 << 10 {
		for _, d := range tolerances() {
			keeps(t, blockOf(1, uint16(v)), 10, d)
		}
	}
	for v := 0; v < 1<<12; v += 3 {
		keeps(t, blockOf(1, uint16(v)), 12, v%64)
	}
}

// P10.5: each beginning is refused, and so is the whole with whatever byte behind it.
func TestP10_5NoMoreNoLess(t *testing.T) {
	each(func(b api.Block, depth, d int) {
		if b.W*b.H > 260 {
			return
		}
		s := encoded(t, b, depth, d)
		for n := range s {
			refuses(t, s[:n:n], b.W, b.H, depth, d, api.ErrSliceForm)
			refuses(t, s[:n], b.W, b.H, depth, d, api.ErrSliceForm) // what stands behind a list is not read
		}
	})
	for _, b := range []api.Block{blockOf(1, 512), blockOf(1, 1023), blockOf(3, 512, 512, 513, 512, 512, 513), blockOf(8, many(64, 9)...)} {
		s := encoded(t, b, 10, 0)
		for x := range 256 {
			refuses(t, append(bytes.Clone(s), byte(x)), b.W, b.H, 10, 0, api.ErrSliceLong)
			refuses(t, append(bytes.Clone(s), 0, byte(x)), b.W, b.H, 10, 0, api.ErrSliceLong)
		}
		refuses(t, append(bytes.Clone(s), s...), b.W, b.H, 10, 0, api.ErrSliceLong)
		refuses(t, append(bytes.Clone(s), make([]byte, 1<<16)...), b.W, b.H, 10, 0, api.ErrSliceLong)
	}
}

// isFlat says that P10.6 holds of a flat block.
func isFlat(t *testing.T, w, h, depth, d, v int) {
	t.Helper()
	b := blockOf(w, many(w*h, uint16(v))...)
	s, came := encoded(t, b, depth, d), settled(t, b, depth, d)
	bound := 1 + (h+63)/8
	if (h+63)%8 != 0 {
		bound++
	}
	if len(s) > bound {
		t.Fatalf("%d by %d of %d, depth %d, tolerance %d: %d bytes, not %d", w, h, v, depth, d, len(s), bound)
	}
	for _, x := range came.Samples {
		if x != came.Samples[0] || far(int(x), v) > d {
			t.Fatalf("%d by %d of %d, depth %d, tolerance %d: %d and %d come back", w, h, v, depth, d, came.Samples[0], x)
		}
	}
	reads(t, s, depth, d, came)
}

func TestP10_6Flat(t *testing.T) {
	for _, depth := range []int{10, 12} {
		most, half := 1<<depth-1, 1<<(depth-1)
		for d := range 64 {
			for _, v := range []int{0, 1, d, d + 1, half - d - 1, half - d, half, half + d, half + d + 1, most - d - 1, most - d, most} {
				for _, size := range [][2]int{{1, 1}, {1, 2}, {2, 1}, {9, 9}, {100, 1}, {1, 100}, {64, 33}} {
					isFlat(t, size[0], size[1], depth, d, v)
				}
			}
		}
		for _, v := range []int{0, half, most} {
			for _, size := range [][2]int{{4096, 1}, {1, 4096}, {4095, 17}, {4096, 1024}, {1024, 4096}} {
				isFlat(t, size[0], size[1], depth, 1, v)
			}
		}
	}
}
