package picture_test

import (
	"bytes"
	"math"
	"slices"
	"testing"

	"dailies/api"
	"dailies/crc"
	"dailies/picture"
)

// wrongFrames may not be: each with plane's error of it.
func wrongFrames() map[api.Errno][]api.Frame {
	list := map[api.Errno][]api.Frame{}
	for _, s := range wrongShapes() {
		list[api.ErrPlaneShape] = append(list[api.ErrPlaneShape], api.Frame{Shape: s}, api.Frame{Shape: s, Planes: flat(square, 5).Planes})
	}
	three, four := flat(square, 1<<9), flat(api.Shape{Width: 16, Height: 16, Depth: 10, Alpha: true}, 7)
	list[api.ErrPlanePlanes] = []api.Frame{{Shape: square}, {Shape: square, Planes: three.Planes[:2]}, {Shape: square, Planes: four.Planes}, {Shape: four.Shape, Planes: three.Planes}}
	for p := range 3 {
		f := flat(square, 3)
		f.Planes[p] = f.Planes[p][1:]
		g := flat(square, 3)
		g.Planes[p] = append(g.Planes[p], 4)
		h := flat(square, 3)
		h.Planes[p] = nil
		list[api.ErrPlaneSize] = append(list[api.ErrPlaneSize], f, g, h)
		for _, v := range []uint16{1024, 4095, 65535} {
			f := flat(square, 3)
			f.Planes[p][len(f.Planes[p])-1] = v
			list[api.ErrPlaneSample] = append(list[api.ErrPlaneSample], f)
		}
	}
	return list
}

// nothingCoded tells whether a Coded is the empty one.
func nothingCoded(x api.Coded) bool {
	return len(x.Bytes) == 0 && x.Step == 0 && x.Rung == api.Rung{}
}

// refusesFrame holds what all three that take a frame answer against an error.
func refusesFrame(t *testing.T, f api.Frame, c api.Config, rung api.Rung, k int, want api.Errno) {
	t.Helper()
	if b, e := picture.Payload(f, c, rung, k); len(b) != 0 || e != want {
		t.Fatalf("Payload of %v, %v, %v, %d: %d bytes, %v; want %v", f.Shape, c, rung, k, len(b), e, want)
	}
	if x, e := picture.At(f, c, k); !nothingCoded(x) || e != want {
		t.Fatalf("At of %v, %v, %d: %v; want %v", f.Shape, c, k, e, want)
	}
	if x, e := picture.Encode(f, c); !nothingCoded(x) || e != want {
		t.Fatalf("Encode of %v, %v: %v; want %v", f.Shape, c, e, want)
	}
}

// P2: the frame is asked first, whatever else is wrong; then the configuration, and with it the rung; then the slice or the step.
func TestFramesAreRefusedInOrder(t *testing.T) {
	for want, frames := range wrongFrames() {
		for _, f := range frames {
			for _, c := range append(wrongConfigs(), plain) {
				refusesFrame(t, f, c, api.Rung{}, 0, want)
				refusesFrame(t, f, c, api.Rung{-1, 64}, -1, want)
			}
		}
	}
	f := ramp(square)
	for _, c := range wrongConfigs() {
		for _, k := range []int{-1, 0, 1, math.MinInt, math.MaxInt} {
			refusesFrame(t, f, c, api.Rung{}, k, api.ErrPictureConfig)
			refusesFrame(t, f, c, api.Rung{-1, 64}, k, api.ErrPictureConfig)
		}
	}
}

// wrongRungs may not be, where there is no Alpha.
func wrongRungs() []api.Rung {
	list := []api.Rung{{0, 0, 0, 1}, {0, 0, 0, 63}}
	for p := range 4 {
		for _, d := range append(odd(), 64, 255, 256) {
			var rung api.Rung
			rung[p] = d
			list = append(list, rung)
		}
	}
	return list
}

func TestPayloadRefuses(t *testing.T) {
	f := ramp(api.Shape{Width: 48, Height: 32, Depth: 10})
	for _, k := range append(odd(), 6, 7, 1000) {
		if b, e := picture.Payload(f, plain, api.Rung{}, k); len(b) != 0 || e != api.ErrTileSlice {
			t.Error(k, len(b), e)
		}
		for _, rung := range wrongRungs() {
			if b, e := picture.Payload(f, plain, rung, k); len(b) != 0 || e != api.ErrPictureConfig {
				t.Error(k, rung, len(b), e)
			}
		}
	}
	for _, rung := range wrongRungs() {
		if b, e := picture.Payload(f, plain, rung, 0); len(b) != 0 || e != api.ErrPictureConfig {
			t.Error(rung, len(b), e)
		}
	}
	for _, k := range []int{0, 1, 5} {
		if b, e := picture.Payload(f, plain, api.Rung{}, k); len(b) == 0 || e != api.OK {
			t.Error(k, len(b), e)
		}
	}
}

func TestPayloadByWords(t *testing.T) {
	for _, w := range ways() {
		rungs := append(slices.Clone(w.config.Ladder), api.Rung{63, 0, 31}, api.Rung{0, 1, 62}) // also such as no ladder has
		for k, r := range rects(w.frame.Shape, w.config.SliceW, w.config.SliceH) {
			rung := rungs[k%len(rungs)]
			want := payloadOf(t, w.frame, rung, r)
			if b, e := picture.Payload(w.frame, w.config, rung, k); !bytes.Equal(b, want) || e != api.OK {
				t.Fatal(w.frame.Shape, w.config, rung, k, e)
			}
		}
	}
}

func TestAtByWords(t *testing.T) {
	for _, w := range ways() {
		for step, rung := range w.config.Ladder {
			want := recordOf(t, w.frame.Shape, w.config, rung, payloadsOf(t, w.frame, w.config, rung))
			if x := at(t, w.frame, w.config, step); !bytes.Equal(x.Bytes, want) {
				t.Fatal(w.frame.Shape, w.config, step)
			}
		}
		for _, step := range append(odd(), len(w.config.Ladder), len(w.config.Ladder)+1, 17) {
			if x, e := picture.At(w.frame, w.config, step); !nothingCoded(x) || e != api.ErrArg {
				t.Fatal(w.frame.Shape, w.config, step, e)
			}
		}
	}
}

// The cap has no part in At.
func TestAtWhateverTheCapIs(t *testing.T) {
	f := ramp(square)
	want := at(t, f, plain, 0).Bytes
	for _, n := range []int{1, 31, len(want) - 1, len(want), math.MaxInt} {
		if x := at(t, f, with(plain, func(c *api.Config) { c.Cap = n }), 0); !bytes.Equal(x.Bytes, want) {
			t.Error(n)
		}
	}
}

func TestDocumentsExamples(t *testing.T) {
	s := api.Shape{Width: 48, Height: 32, Depth: 10}
	if x := at(t, flat(square, 512), plain, 0); len(x.Bytes) != 66 {
		t.Error(len(x.Bytes))
	}
	if x := at(t, ramp(s), plain, 0); len(x.Bytes) != 1062 || crc.Sum(x.Bytes) != 0x527d3982 {
		t.Errorf("%d:%08x", len(x.Bytes), crc.Sum(x.Bytes))
	}
	x := at(t, flat(s, 100), plain, 0)
	if len(x.Bytes) != 300 || crc.Sum(x.Bytes) != 0x8d81850a {
		t.Errorf("%d:%08x", len(x.Bytes), crc.Sum(x.Bytes))
	}
	h, list := opened(t, x.Bytes)
	if picture.TableSize(h) != 52 || list[3].At != 1308-1116 || list[3].Length != 36 {
		t.Error(h, list)
	}
	c := api.Config{SliceW: 16, SliceH: 16, Ladder: []api.Rung{{1, 1, 1, 0}}, Parity: 2}
	if x := at(t, ramp(s), c, 0); len(x.Bytes) != 1209 {
		t.Error(len(x.Bytes))
	}
}

func TestChaptersExampleOfAFlatFrame(t *testing.T) {
	x := at(t, flat(square, 512), plain, 0)
	h, list := opened(t, x.Bytes)
	if h.Slices != 1 || picture.TableSize(h) != 12 || len(list) != 1 || list[0].At != 44 || list[0].Length != 22 {
		t.Error(h, list)
	}
	if want := recordOf(t, square, plain, api.Rung{}, payloadsOf(t, flat(square, 512), plain, api.Rung{})); !bytes.Equal(x.Bytes, want) {
		t.Error(x.Bytes)
	}
	// All of it, written out: each plane is sixteen rows that are one run each.
	front := []byte{
		'D', 'L', 'Y', '1', 0, 16, 0, 16, 10, 0, 0, 16, 0, 16, 0, 0, 0, 0, 0, 0, 0, 1, 0, 0, 0, 0, 0, 66,
	}
	if !bytes.Equal(x.Bytes[:28], front) {
		t.Error(x.Bytes[:28])
	}
}

// Assemble takes payloads whatever they are.
func TestAssembleByWords(t *testing.T) {
	c := chance(5)
	for _, w := range ways() {
		n := len(rects(w.frame.Shape, w.config.SliceW, w.config.SliceH))
		for round := range 3 {
			payloads := make([][]byte, n)
			for k := range payloads {
				payloads[k] = make([]byte, c.below(40)*round)
				for i := range payloads[k] {
					payloads[k][i] = byte(c.below(256))
				}
			}
			payloads[c.below(n)] = nil
			rung := api.Rung{c.below(64), c.below(64), c.below(64)}
			b, e := picture.Assemble(w.frame.Shape, w.config, rung, payloads)
			if want := recordOf(t, w.frame.Shape, w.config, rung, payloads); !bytes.Equal(b, want) || e != api.OK {
				t.Fatal(w.frame.Shape, w.config, rung, e)
			}
		}
	}
}

// The ladder and the cap have no part in the record; Payload and Assemble make what At makes.
func TestAssembleOfPayloads(t *testing.T) {
	for _, w := range ways() {
		for step, rung := range w.config.Ladder {
			var payloads [][]byte
			for k := range rects(w.frame.Shape, w.config.SliceW, w.config.SliceH) {
				b, _ := picture.Payload(w.frame, w.config, rung, k)
				payloads = append(payloads, b)
			}
			c := with(w.config, func(c *api.Config) { c.Ladder, c.Cap = ladderOf(3), 1 })
			b, e := picture.Assemble(w.frame.Shape, c, rung, payloads)
			if !bytes.Equal(b, at(t, w.frame, w.config, step).Bytes) || e != api.OK {
				t.Fatal(w.frame.Shape, w.config, step, e)
			}
		}
	}
}

func TestAssembleRefusesInOrder(t *testing.T) {
	long := make([]byte, 1<<24)
	lists := [][][]byte{nil, {}, {nil}, {{1}}, {{1}, {2}}, {long}, {long, long}}
	refuses := func(s api.Shape, c api.Config, rung api.Rung, payloads [][]byte, want api.Errno) {
		t.Helper()
		if b, e := picture.Assemble(s, c, rung, payloads); len(b) != 0 || e != want {
			t.Fatal(s, c, rung, len(payloads), len(b), e)
		}
	}
	for _, list := range lists {
		for _, s := range wrongShapes() {
			for _, c := range append(wrongConfigs(), plain) {
				refuses(s, c, api.Rung{}, list, api.ErrPlaneShape)
				refuses(s, c, api.Rung{-1}, list, api.ErrPlaneShape)
			}
		}
		for _, c := range wrongConfigs() {
			refuses(square, c, api.Rung{}, list, api.ErrPictureConfig)
			refuses(square, c, api.Rung{64}, list, api.ErrPictureConfig)
		}
		for _, rung := range wrongRungs() {
			refuses(square, plain, rung, list, api.ErrPictureConfig)
		}
		if len(list) != 1 || len(list[0]) == len(long) {
			refuses(square, plain, api.Rung{}, list, api.ErrArg)
		}
	}
}

// As many payloads as slices, one less, one more, none.
func TestAssembleAsksHowManyPayloads(t *testing.T) {
	for _, s := range []api.Shape{square, wideA, shape200, shape201} {
		n := len(rects(s, 16, 16))
		for _, many := range []int{0, n - 1, n, n + 1, 2 * n} {
			want := api.ErrArg
			if many == n {
				want = api.OK
			}
			b, e := picture.Assemble(s, plain, api.Rung{}, make([][]byte, many))
			if e != want || e != api.OK && len(b) != 0 || e == api.OK && len(b) != 36+8*n {
				t.Error(s, many, len(b), e)
			}
		}
	}
}

// A payload has at most 16777215 bytes, a record at most 134217727.
func TestAssembleGreatest(t *testing.T) {
	long := bytes.Repeat([]byte{1, 2, 3, 5, 7, 11, 13, 17}, 1<<21)
	line := func(n int) api.Shape { return api.Shape{Width: 16 * n, Height: 16, Depth: 10} }
	for _, x := range []struct {
		lengths []int
		parity  int
		want    api.Errno
	}{
		{[]int{16777215}, 0, api.OK},
		{[]int{16777216}, 0, api.ErrArg},
		{[]int{0, 16777215, 0}, 1, api.OK},
		{[]int{0, 0, 16777216}, 0, api.ErrArg},
		{[]int{16777216, 0, 0}, 1, api.ErrArg},
		// Eight payloads behind 32 and 68 bytes.
		{[]int{16777215, 16777215, 16777215, 16777215, 16777215, 16777215, 16777215, 16777122}, 0, api.OK},
		{[]int{16777215, 16777215, 16777215, 16777215, 16777215, 16777215, 16777215, 16777123}, 0, api.ErrArg},
		// One payload and seven parity rows of its length: 72 and eight times that.
		{[]int{16777206}, 7, api.OK},
		{[]int{16777207}, 7, api.ErrArg},
		// The rows alone make it too long.
		{[]int{16777215, 0}, 6, api.OK},
		{[]int{16777215, 0}, 16, api.ErrArg},
		{slices.Repeat([]int{16777215}, 200), 0, api.ErrArg},
		{slices.Repeat([]int{16777215}, 200), 16, api.ErrArg},
		{slices.Repeat([]int{16777215}, 256), 0, api.ErrArg},
	} {
		var payloads [][]byte
		length, greatest := 36+8*len(x.lengths)+4*x.parity, 0
		for _, n := range x.lengths {
			payloads = append(payloads, long[:n])
			length, greatest = length+n, max(greatest, n)
		}
		length += x.parity * greatest
		c := with(plain, func(c *api.Config) { c.Parity = x.parity })
		b, e := picture.Assemble(line(len(x.lengths)), c, api.Rung{}, payloads)
		if e != x.want || e != api.OK && len(b) != 0 {
			t.Fatal(x, len(b), e)
		}
		if e != api.OK {
			continue
		}
		if len(b) != length {
			t.Fatal(x, len(b), length)
		}
		h, list := opened(t, b)
		for k, payload := range payloads {
			if h.Length != length || !bytes.Equal(bytesOf(b, list[k]), payload) || list[k].Sum != crc.Sum(payload) {
				t.Fatal(x, h, k)
			}
		}
	}
}

// 200 slices have 16 parity rows, 201 none.
func TestManySlices(t *testing.T) {
	c := chance(8)
	sixteen := with(plain, func(c *api.Config) { c.Parity = 16 })
	for _, w := range []way{{mixed(shape200, &c), sixteen}, {mixed(shape201, &c), plain}} {
		x := at(t, w.frame, w.config, 0)
		if want := recordOf(t, w.frame.Shape, w.config, api.Rung{}, payloadsOf(t, w.frame, w.config, api.Rung{})); !bytes.Equal(x.Bytes, want) {
			t.Error(w.frame.Shape)
		}
		if n, _ := picture.Bound(w.frame.Shape, w.config); len(x.Bytes) > n {
			t.Error(w.frame.Shape, len(x.Bytes), n)
		}
	}
	refusesFrame(t, flat(shape201, 1), sixteen, api.Rung{}, 0, api.ErrPictureConfig)
	if b, e := picture.Assemble(shape201, sixteen, api.Rung{}, make([][]byte, 201)); len(b) != 0 || e != api.ErrPictureConfig {
		t.Error(len(b), e)
	}
}
