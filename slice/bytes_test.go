package slice_test

import (
	"bytes"
	"math"
	"testing"

	"dailies/api"
	"dailies/bits"
	"dailies/crc"
	"dailies/slice"
)

// S1: the sizes at their edges; of wrong ones the depth is told first.
func TestRawSize(t *testing.T) {
	sides := []int{math.MinInt, -4096, -1, 0, 1, 2, 3, 7, 8, 1023, 1024, 1025, 2047, 2048, 2049, 4095, 4096, 4097, 1 << 32, 1 << 62, math.MaxInt}
	within := func(side int) bool { return 1 <= side && side <= 4096 }
	for _, w := range sides {
		for _, h := range sides {
			for _, depth := range []int{10, 12} {
				size, want := 0, api.ErrSliceBlock
				if within(w) && within(h) && w*h <= 4194304 {
					want = api.OK
					size = 1 + depth*w*h/8
					if depth*w*h%8 != 0 {
						size++
					}
				}
				if n, e := slice.RawSize(w, h, depth); n != size || e != want {
					t.Fatalf("RawSize(%d, %d, %d): %d %v, not %d %v", w, h, depth, n, e, size, want)
				}
			}
			for _, depth := range []int{math.MinInt, -10, 0, 1, 8, 9, 11, 13, 16, math.MaxInt} {
				if n, e := slice.RawSize(w, h, depth); n != 0 || e != api.ErrModelDepth {
					t.Fatalf("RawSize(%d, %d, %d): %d %v", w, h, depth, n, e)
				}
			}
		}
	}
	for _, x := range [][4]int{{1, 1, 10, 3}, {1, 1, 12, 3}, {3, 2, 12, 10}, {4, 1, 10, 6}, {4096, 1024, 10, 5242881}, {2048, 2048, 12, 6291457}} {
		if n, e := slice.RawSize(x[0], x[1], x[2]); n != x[3] || e != api.OK {
			t.Error(x, n, e)
		}
	}
}

// Each text was found by hand, from the chapters' words alone: of depth 10 and tolerance 0 a context begins with the parameter 4.
func TestTextsFoundByHand(t *testing.T) {
	for _, x := range []struct {
		w, depth, d int
		in, came    []uint16
		digits      string
	}{
		{1, 10, 0, []uint16{512}, []uint16{512}, "1"},
		// A run of none, and the sample behind it: its folded quotient less 1.
		{1, 10, 0, []uint16{511}, []uint16{511}, "0 10000"},
		{1, 10, 0, []uint16{513}, []uint16{513}, "0 10001"},
		{1, 12, 0, []uint16{2048}, []uint16{2048}, "1"},
		// Range 4096: A is 64, the parameter 6; the folded 7 less 1.
		{1, 12, 0, []uint16{2044}, []uint16{2044}, "0 1000110"},
		// Tolerance 1: Range 342, A is 5, the parameter 3; a step is 3.
		{1, 10, 1, []uint16{513}, []uint16{512}, "1"},
		{1, 10, 1, []uint16{511}, []uint16{512}, "1"},
		{1, 10, 1, []uint16{514}, []uint16{515}, "0 1001"},
		{1, 10, 1, []uint16{510}, []uint16{509}, "0 1000"},
		// Tolerance 63: Range 10, A is 2, the parameter 1; a step is 127.
		{1, 10, 63, []uint16{575}, []uint16{512}, "1"},
		{1, 10, 63, []uint16{576}, []uint16{639}, "0 11"},
		{1, 10, 63, []uint16{0}, []uint16{4}, "0 00010"},
		{1, 10, 63, []uint16{1023}, []uint16{1020}, "0 00011"},
		// A row that is one run; a run that ends within the row, by the rate 1, and its sample.
		{5, 10, 0, []uint16{512, 512, 512, 512, 512}, []uint16{512, 512, 512, 512, 512}, "1111 1"},
		{2, 10, 0, []uint16{512, 520}, []uint16{512, 520}, "10 11111"},
		// Behind it the next sample has its own left neighbour: a run of 520 of none, then 1 less; A is 24, N 2.
		{3, 10, 0, []uint16{512, 520, 519}, []uint16{512, 520, 519}, "10 11111 0 10000"},
		// The next row: degrees 2, 0, 0: context 162; then 0, 2, 0: context 18, where 520 is guessed.
		{2, 10, 0, []uint16{512, 520, 512, 515}, []uint16{512, 520, 512, 515}, "10 11111 10000 11001"},
		// The same with the sign -1: -2, 0, 0; then 0, -2, -1, where 523 + 512 - 520 is guessed.
		{2, 10, 0, []uint16{520, 512, 523, 515}, []uint16{520, 512, 523, 515}, "0 11111 0 11110 10101 10000"},
		// One column: all neighbours are the sample above.
		{1, 10, 0, []uint16{512, 513, 513, 512}, []uint16{512, 513, 513, 512}, "1 0 10001 1 0 10000"},
		// A run goes on past a sample whose own neighbours are not flat, and so does the sample behind it.
		{3, 10, 0, []uint16{512, 512, 513, 512, 512, 513}, []uint16{512, 512, 513, 512, 512, 513}, "110 10001 110 10001"},
	} {
		b := blockOf(x.w, x.in...)
		want := text(1, x.digits)
		got := encoded(t, b, x.depth, x.d)
		if !bytes.Equal(got, want) {
			t.Errorf("%v by %d, depth %d, tolerance %d: %v, not %v", x.in, x.w, x.depth, x.d, got, want)
		}
		if came := settled(t, b, x.depth, x.d); !sameBlock(came, blockOf(x.w, x.came...)) {
			t.Errorf("%v by %d, depth %d, tolerance %d: settles as %v", x.in, x.w, x.depth, x.d, came)
		}
		reads(t, want, x.depth, x.d, blockOf(x.w, x.came...))
	}
}

// The coded bytes must be fewer: as many are told raw.
func TestRawWhereCodedIsNotShorter(t *testing.T) {
	for _, x := range []struct {
		in   []uint16
		w    int
		d    int
		want []byte
	}{
		// Coded it has a bit, a long form and 6 bytes; raw 3.
		{[]uint16{1023}, 1, 0, text(0, "1111111111")},
		{[]uint16{0}, 1, 0, text(0, "0000000000")},
		// 512 and 38: a bit, 9 bits of a short form of 76 less 1 (0000 1 1011): 1 + 2 bytes, as many as raw.
		{[]uint16{550}, 1, 0, text(0, "1000100110")},
		// One nought fewer: 8 bits of 64 less 1 (000 1 1111) and one: still 2 bytes.
		{[]uint16{544}, 1, 0, text(0, "1000100000")},
		// 48 less 1 (00 1 1111): 8 bits in all, so 1 + 1 bytes.
		{[]uint16{536}, 1, 0, text(1, "0 00 1 1111")},
		// By hand above, with greater numbers: 41 bits coded, 40 raw.
		{[]uint16{512, 612, 512, 512}, 2, 0, text(0, "1000000000 1001100100 1000000000 1000000000")},
	} {
		b := blockOf(x.w, x.in...)
		if got := encoded(t, b, 10, x.d); !bytes.Equal(got, x.want) {
			t.Errorf("%v: %v, not %v", x.in, got, x.want)
		}
		if x.want[0] == 0 && !sameBlock(settled(t, b, 10, x.d), b) {
			t.Errorf("%v: raw, and settles otherwise", x.in)
		}
		reads(t, x.want, 10, x.d, b)
	}
	// By a tolerance too: told raw, a block settles as it is, though a coder would have changed it.
	b := blockOf(2, 0, 1023, 1023, 0)
	want := text(0, "0000000000 1111111111 1111111111 0000000000")
	for _, d := range []int{0, 1, 2} {
		if got := encoded(t, b, 10, d); !bytes.Equal(got, want) || !sameBlock(settled(t, b, 10, d), b) {
			t.Errorf("tolerance %d: %v", d, got)
		}
	}
}

// recordOf is the record of the document's examples, of planes of slices of 16 by 16 and a rung without parity: its length and its sum hang on each of the slices' bytes.
func recordOf(t *testing.T, w, h int, sample func(p, x, y int) int) []byte {
	t.Helper()
	var table, payloads []byte
	big := func(to []byte, n, size int) []byte {
		b, e := bits.Big(uint64(n), size)
		if e != api.OK {
			t.Fatal(n, size, e)
		}
		return append(to, b...)
	}
	slicesOf := 0
	for top := 0; top < h; top += 16 {
		for left := 0; left < w; left += 16 {
			var payload []byte
			for p := range 3 {
				b := api.Block{W: 16, H: 16}
				from := left
				if p > 0 {
					b.W, from = 8, left/2
				}
				for i := range b.W * b.H {
					b.Samples = append(b.Samples, uint16(sample(p, from+i%b.W, top+i/b.W)))
				}
				s := encoded(t, b, 10, 0)
				payload = append(big(payload, len(s), 3), s...)
			}
			table = big(big(table, len(payload), 4), int(crc.Sum(payload)), 4)
			payloads = append(payloads, payload...)
			slicesOf++
		}
	}
	table = big(table, int(crc.Sum(table)), 4)
	head := append([]byte("DLY1"), 0, byte(w), 0, byte(h), 10, 0, 0, 16, 0, 16, 0, 0, 0, 0)
	head = big(append(big(head, slicesOf, 4), 0, 0), 32+len(table)+len(payloads), 4)
	head = big(head, int(crc.Sum(head)), 4)
	return append(append(head, table...), payloads...)
}

func TestDocumentsExamplesOfRecords(t *testing.T) {
	flat := func(v int) func(p, x, y int) int { return func(p, x, y int) int { return v } }
	if r := recordOf(t, 16, 16, flat(512)); len(r) != 66 {
		t.Error(len(r))
	}
	if r := recordOf(t, 48, 32, flat(100)); len(r) != 300 || crc.Sum(r) != 0x8d81850a {
		t.Errorf("%d:%08x", len(r), crc.Sum(r))
	}
	ramp := func(p, x, y int) int { return (3*x + 7*y + p) % 1024 }
	if r := recordOf(t, 48, 32, ramp); len(r) != 1062 || crc.Sum(r) != 0x527d3982 {
		t.Errorf("%d:%08x", len(r), crc.Sum(r))
	}
}

// wrongDepths and wrongTolerances are refused whatever else is handed in.
var (
	wrongDepths     = []int{math.MinInt, -12, -10, -1, 0, 1, 8, 9, 11, 13, 14, 16, 32, 64, math.MaxInt}
	wrongTolerances = []int{math.MinInt, -64, -1, 64, 65, 1 << 32, math.MaxInt}
)

func many(n int, v uint16) []uint16 {
	s := make([]uint16, n)
	for i := range s {
		s[i] = v
	}
	return s
}

// wrongBlocks are none of depth 10.
func wrongBlocks() []api.Block {
	all := []api.Block{
		{}, {W: 1, H: 1}, {W: 1, H: 1, Samples: []uint16{}}, {W: 1, H: 1, Samples: []uint16{1, 2}},
		{W: 0, H: 1}, {W: 1, H: 0}, {W: 0, H: 1, Samples: []uint16{1}}, {W: 1, H: 0, Samples: []uint16{1}},
		{W: -1, H: -1, Samples: []uint16{1}}, {W: -2, H: -3, Samples: many(6, 1)}, {W: 3, H: 2, Samples: many(5, 1)}, {W: 3, H: 2, Samples: many(7, 1)},
		{W: 4097, H: 1, Samples: many(4097, 1)}, {W: 1, H: 4097, Samples: many(4097, 1)},
		{W: 4096, H: 1025, Samples: many(4096*1025, 1)}, {W: 2049, H: 2048, Samples: many(2049*2048, 1)},
		{W: 1 << 32, H: 1 << 32}, {W: 1 << 62, H: 4}, {W: math.MinInt, H: math.MinInt}, {W: math.MaxInt, H: math.MaxInt, Samples: []uint16{1}},
		{W: -1, H: math.MinInt, Samples: []uint16{1}},
	}
	for i := range 6 {
		for _, v := range []uint16{1024, 4096, 32768, 65535} {
			b := blockOf(3, many(6, 7)...)
			b.Samples[i] = v
			all = append(all, b)
		}
	}
	return all
}

func refusesBlock(t *testing.T, b api.Block, depth, d int, want api.Errno) {
	t.Helper()
	if s, e := slice.Encode(b, depth, d); e != want || len(s) != 0 {
		t.Fatalf("Encode of %d by %d and %d samples, depth %d, tolerance %d: %v %v", b.W, b.H, len(b.Samples), depth, d, s, e)
	}
	if c, e := slice.Settle(b, depth, d); e != want || c.W != 0 || c.H != 0 || len(c.Samples) != 0 {
		t.Fatalf("Settle of %d by %d and %d samples, depth %d, tolerance %d: %v %v", b.W, b.H, len(b.Samples), depth, d, c, e)
	}
}

// S2, S4, P2: the depth is asked first, then the tolerance, then the block.
func TestEncodeAndSettleRefuse(t *testing.T) {
	right := blockOf(2, 5, 6, 7, 8)
	for _, b := range append(wrongBlocks(), right) {
		for _, depth := range wrongDepths {
			for _, d := range append(wrongTolerances, 0, 63) {
				refusesBlock(t, b, depth, d, api.ErrModelDepth)
			}
		}
		for _, d := range wrongTolerances {
			refusesBlock(t, b, 10, d, api.ErrModelTolerance)
			refusesBlock(t, b, 12, d, api.ErrModelTolerance)
		}
	}
	for _, b := range wrongBlocks() {
		for _, d := range []int{0, 1, 63} {
			refusesBlock(t, b, 10, d, api.ErrSliceBlock)
		}
	}
	for _, v := range []uint16{4096, 65535} {
		refusesBlock(t, blockOf(1, v), 12, 0, api.ErrSliceBlock)
	}
	for _, d := range []int{0, 1, 63} {
		encoded(t, right, 10, d)
		encoded(t, blockOf(2, 0, 1023), 10, d)
		encoded(t, blockOf(2, 1024, 4095), 12, d)
	}
}

// The greatest blocks may be: both sides at their greatest, and as many samples as there may be.
func TestGreatestBlocks(t *testing.T) {
	c := chance(7)
	for _, size := range [][2]int{{4096, 1}, {1, 4096}, {4096, 1024}, {1024, 4096}} {
		b := blockOf(size[0], many(size[0]*size[1], 0)...)
		for i := range b.Samples {
			b.Samples[i] = uint16(600 + i/size[0]%50 + i%size[0]%50/10*c.below(9))
		}
		s := encoded(t, b, 10, 1)
		came := settled(t, b, 10, 1)
		reads(t, s, 10, 1, came)
		if s[0] != 1 || !bytes.Equal(encoded(t, came, 10, 1), s) {
			t.Error(size, "is not coded, or otherwise again")
		}
	}
}

func TestChaptersExamples(t *testing.T) {
	if s := encoded(t, blockOf(1, 512), 10, 0); !bytes.Equal(s, []byte{1, 128}) {
		t.Error(s)
	}
	reads(t, []byte{1, 128}, 10, 0, blockOf(1, 512))
	reads(t, []byte{0, 127, 192}, 10, 0, blockOf(1, 511))
	for s, want := range map[string]api.Errno{
		"\x01\x80\x00": api.ErrSliceLong, "\x01\x81": api.ErrSliceForm, "\x01": api.ErrSliceForm, "\x02\x80": api.ErrSliceForm, "\x00\x7f\xc1": api.ErrSliceForm,
	} {
		refuses(t, []byte(s), 1, 1, 10, 0, want)
	}
}
