package slice_test

import (
	"bytes"
	"math"
	"strings"
	"testing"

	"dailies/api"
	"dailies/bits"
	"dailies/golomb"
	"dailies/model"
	"dailies/slice"
)

// S3, P2: the depth is asked first, then the tolerance, then the sides, then the bytes.
func TestDecodeRefusesInOrder(t *testing.T) {
	some := [][]byte{nil, {}, {1, 128}, {1, 128, 0}, {2, 128}, {0, 127, 192}, bytes.Repeat([]byte{1}, 100)}
	wrong := [][2]int{{0, 1}, {1, 0}, {-1, -1}, {4097, 1}, {1, 4097}, {4096, 1025}, {1025, 4096}, {2049, 2048}, {4096, 4096}, {1 << 62, 4}, {1 << 32, 1 << 32}, {math.MinInt, math.MinInt}, {math.MaxInt, math.MaxInt}, {math.MinInt, -1}}
	for _, s := range some {
		for _, size := range append(wrong, [2]int{1, 1}) {
			for _, depth := range wrongDepths {
				for _, d := range append(wrongTolerances, 0, 63) {
					refuses(t, s, size[0], size[1], depth, d, api.ErrModelDepth)
				}
			}
			for _, d := range wrongTolerances {
				refuses(t, s, size[0], size[1], 10, d, api.ErrModelTolerance)
				refuses(t, s, size[0], size[1], 12, d, api.ErrModelTolerance)
			}
		}
		for _, size := range wrong {
			for _, d := range []int{0, 1, 63} {
				refuses(t, s, size[0], size[1], 10, d, api.ErrSliceBlock)
				refuses(t, s, size[0], size[1], 12, d, api.ErrSliceBlock)
			}
		}
	}
}

func TestDecodeAsksTheFirstByte(t *testing.T) {
	refuses(t, nil, 1, 1, 10, 0, api.ErrSliceForm)
	refuses(t, []byte{}, 1, 1, 10, 0, api.ErrSliceForm)
	for first := 2; first < 256; first++ {
		for _, rest := range [][]byte{nil, {128}, {127, 192}, {128, 0, 0}} {
			refuses(t, append([]byte{byte(first)}, rest...), 1, 1, 10, 0, api.ErrSliceForm)
		}
	}
}

// A raw one is read alike by every tolerance, also one that Encode would not have made.
func TestDecodeReadsRawByEveryTolerance(t *testing.T) {
	for d := range 64 {
		reads(t, text(0, "1000000000 1000000000 0000000000 1111111111"), 10, d, blockOf(2, 512, 512, 0, 1023))
		reads(t, text(0, "100000000000 000000000001 111111111111"), 12, d, blockOf(3, 2048, 1, 4095))
	}
}

// All samples of a depth come back out of a raw one.
func TestDecodeReadsEachRawSample(t *testing.T) {
	for _, depth := range []int{10, 12} {
		b := api.Block{W: 1 << (depth - 5), H: 32}
		out := bits.NewWriter()
		out.Put(0, 8)
		for v := range 1 << depth {
			b.Samples = append(b.Samples, uint16(v))
			out.Put(uint32(v), depth)
		}
		reads(t, out.Bytes(), depth, 5, b)
	}
}

// Bytes that are longer than raw ones, and so nobody's, are read.
func TestDecodeReadsCodedThatIsLong(t *testing.T) {
	reads(t, text(1, "0 000000000000000000000000 1111111101"), 10, 0, blockOf(1, 1023))
	// The folded 1023 is the greatest one, and stands for -512.
	reads(t, text(1, "0 000000000000000000000000 1111111110"), 10, 0, blockOf(1, 0))
}

// The bits end where a byte does, so that no filling can be taken for them.
func TestDecodeRefusesWhatIsCutWithinASampleOrARun(t *testing.T) {
	noughts := "000000000000000000000000"
	for _, x := range []struct {
		first  byte
		digits string
		w, h   int
	}{
		{0, "", 1, 1},
		{0, "01111111", 1, 1},
		{0, "0111111111 011111", 2, 1},
		{0, "0111111111 0111111111 0000", 3, 1},
		{1, "", 1, 1},
		{1, "11111111", 9, 9},                                // between two runs
		{1, "1111 1111", 13, 1},                              // the rate 8, one left: one more bit
		{1, "1111 1110", 32, 1},                              // the rate 7: a bit behind the nought
		{1, "1111 1111 1111 1111 1111 1111", 300, 1},         // between two stretches
		{1, "0 0000000", 1, 1},                               // the sample's one
		{1, "0 0000000 0000000000000000", 1, 1},              // the same, behind 23 noughts
		{1, "0 0000001", 1, 1},                               // its lowest bits
		{1, "0 000 1 000", 1, 1},                             // one of them
		{1, "0" + noughts + "1111111", 1, 1},                 // a number that is written whole
		{1, "0" + noughts + "1111111101 0 0000", 2, 1},       // the sample behind the next run
		{1, "10 11111 1", 2, 2},                              // in another context: its lowest bits
		{1, "10 11111 10000 0000", 2, 2},                     // its one
		{1, "0 11111 0 11110 10101 0000000", 2, 2},           // with the sign -1
		{1, "10 11111" + noughts + "1111111 11", 2, 2},       // a number that is written whole
		{1, "110 10001 110 00000 00000000" + noughts, 31, 2}, // behind a run in the second row
	} {
		s := text(x.first, x.digits)
		if len(strings.ReplaceAll(x.digits, " ", ""))%8 != 0 {
			t.Fatal(x.digits)
		}
		refuses(t, s, x.w, x.h, 10, 0, api.ErrSliceForm)
	}
}

func TestDecodeRefusesWhatGolombRefuses(t *testing.T) {
	// The rate 4, one left: a nought and 1 would be the whole row. With 0 a sample stands behind it.
	refuses(t, text(1, "1111 0 1 10000 00000000"), 5, 1, 10, 0, api.ErrSliceForm)
	reads(t, text(1, "1111 0 0 10000"), 10, 0, blockOf(5, 512, 512, 512, 512, 511))
	// A long form of a number that has a short one.
	refuses(t, text(1, "0 000000000000000000000000 0000000101"), 1, 1, 10, 0, api.ErrSliceForm)
	refuses(t, text(1, "0 000000000000000000000000 0101111111"), 1, 1, 10, 0, api.ErrSliceForm)
	reads(t, text(1, "0 000000000000000000000000 0110000000"), 10, 0, blockOf(1, 512-193))
	// Tolerance 63: 4 bits wide, the parameter 1: a short form of 16.
	refuses(t, text(1, "0 000000001 0"), 1, 1, 10, 63, api.ErrSliceForm)
}

// A number that Fold should have made is below the Range; behind a run, below the Range less 1: by each model that may be.
func TestDecodeRefusesNumbersBeyondTheRange(t *testing.T) {
	refused := 0
	for _, depth := range []int{10, 12} {
		for d := range 64 {
			m, _ := model.New(depth, d)
			half, step, k, wide := 1<<(depth-1), 2*d+1, m.Param(0), m.Wide()
			try := func(ahead []int, room, h, guess, f, less int) {
				w := bits.NewWriter()
				w.Put(1, 8)
				golomb.NewRuns().Put(w, room-1, room)
				for _, v := range append(ahead, f) { // each in a context of its own, which has learnt nothing
					if e := golomb.Put(w, v, k, wide); e != api.OK {
						t.Fatal(depth, d, v, e)
					}
				}
				s := w.Bytes()
				if f+less >= m.Range() {
					refused++
					refuses(t, s, room, h, depth, d, api.ErrSliceForm)
					refuses(t, append(s, 255), room, h, depth, d, api.ErrSliceForm)
					return
				}
				q, _ := golomb.Unfold(f + less)
				b, e := slice.Decode(s, room, h, depth, d)
				if e != api.OK || int(b.Samples[len(b.Samples)-1]) != m.Grow(guess, q) {
					t.Fatal(depth, d, f, less, b, e)
				}
			}
			for f := m.Range() - 4; f < 1<<wide; f++ {
				// One sample, behind a run of none.
				try(nil, 1, 1, half, f, 1)
				// The last of two by two, of which the first three are half, half and a step, half: the sample above is guessed.
				try([]int{1, 0}, 2, 2, half+step, f, 0)
			}
		}
	}
	if refused < 1000 {
		t.Error("hardly any number is beyond the Range", refused)
	}
}

// Behind the last sample: each bit of its byte that is left must be 0, and that is told ahead of bytes behind.
func TestDecodeLooksAtFillingAndThenBehind(t *testing.T) {
	whole := 0
	each(func(b api.Block, depth, d int) {
		if b.W*b.H > 90 {
			return
		}
		s, _, _ := encode(t, b, depth, d)
		used := 8 + depth*b.W*b.H
		if s[0] == 1 {
			k, w := wordsOf(t, b.W, b.H, depth, d), bits.NewWriter()
			k.code(t, b, w)
			used = 8 + w.Len()
		}
		spare := 8*len(s) - used
		for i := range spare {
			bad := bytes.Clone(s)
			bad[len(bad)-1] ^= 1 << i
			refuses(t, bad, b.W, b.H, depth, d, api.ErrSliceForm)
			refuses(t, append(bad, 0), b.W, b.H, depth, d, api.ErrSliceForm)
			refuses(t, append(bad, 1, 2, 3), b.W, b.H, depth, d, api.ErrSliceForm)
		}
		if spare == 0 {
			whole++
		}
		for _, more := range [][]byte{{0}, {1}, {128}, {255}, {0, 0, 0, 0}, {1, 128, 7}} {
			refuses(t, append(bytes.Clone(s), more...), b.W, b.H, depth, d, api.ErrSliceLong)
		}
	})
	if whole < 10 {
		t.Error("hardly any block fills its bytes", whole)
	}
}

// P10.4, S3: of any bytes the answer is the words' one: an error and nothing, or a block of the depth's samples.
func TestP10_4AnyBytes(t *testing.T) {
	c := chance(1004)
	told := map[api.Errno]int{}
	try := func(s []byte, w, h, depth, d int) {
		want, errno := decode(t, s, w, h, depth, d)
		got, e := slice.Decode(s, w, h, depth, d)
		if e != errno || !sameBlock(got, want) {
			t.Fatalf("%v, %d by %d, depth %d, tolerance %d: %v %v, not %v %v", s, w, h, depth, d, got, e, want, errno)
		}
		for _, v := range got.Samples {
			if v >= 1<<depth {
				t.Fatal(s, got)
			}
		}
		if e == api.OK && (got.W != w || got.H != h || len(got.Samples) != w*h) {
			t.Fatal(s, got)
		}
		told[e]++
	}
	for range 30000 {
		s := make([]byte, c.below(14))
		for i := range s {
			s[i] = byte(c.below(256)) & byte(c.below(256)>>c.below(8))
		}
		if len(s) > 0 && c.below(20) > 0 {
			s[0] = byte(min(c.below(5), 1))
		}
		try(s, 1+c.below(5), 1+c.below(5), 10+2*c.below(2), c.below(64))
	}
	each(func(b api.Block, depth, d int) {
		s, _, _ := encode(t, b, depth, d)
		for range 10 {
			bad := bytes.Clone(s)
			for range 1 + c.below(3) {
				bad[c.below(len(bad))] ^= 1 << c.below(8)
			}
			try(bad[:len(bad)-c.below(2)*c.below(len(bad))], b.W, b.H, depth, d)
			try(bad, b.W, b.H, depth, c.below(64))
			try(bad, 1+c.below(b.W), 1+c.below(b.H), depth, d)
		}
	})
	if told[api.OK] < 1000 || told[api.ErrSliceForm] < 1000 || told[api.ErrSliceLong] < 1000 || len(told) != 3 {
		t.Error(told)
	}
}
