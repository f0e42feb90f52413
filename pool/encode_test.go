package pool_test

import (
	"math"
	"runtime"
	"testing"

	"dailies/api"
	"dailies/crc"
	"dailies/picture"
	"dailies/pool"
)

// encodes holds Encode by so many workers against picture's.
func encodes(t *testing.T, f api.Frame, c api.Config, workers int) (api.Coded, api.Errno) {
	t.Helper()
	want, errno := picture.Encode(f, c)
	x, e := pool.Encode(f, c, workers)
	if !sameCoded(x, want) || e != errno {
		t.Fatalf("%v %v by %d: %d bytes, step %d, %v, %v; want %d, %d, %v, %v", f.Shape, c, workers, len(x.Bytes), x.Step, x.Rung, e, len(want.Bytes), want.Step, want.Rung, errno)
	}
	return x, e
}

// L1: the workers are asked first, whatever else is wrong.
func TestL1Workers(t *testing.T) {
	frames := []api.Frame{ramp(small)}
	for _, f := range wrongFrames() {
		frames = append(frames, f)
	}
	for _, f := range frames {
		for _, c := range append(wrongConfigs(), plain) {
			for _, workers := range wrongWorkers() {
				if x, e := pool.Encode(f, c, workers); !nothingCoded(x) || e != api.ErrPoolWorkers {
					t.Fatal(f.Shape, c, workers, x, e)
				}
			}
		}
	}
	for _, workers := range []int{1, 16} {
		if x, e := encodes(t, ramp(small), plain, workers); len(x.Bytes) == 0 || e != api.OK {
			t.Error(workers, e)
		}
	}
}

// L1, P14.1, T12: frames of all kinds, at every number of workers.
func TestP14_1EncodeIsPictures(t *testing.T) {
	for i, w := range ways() {
		for _, workers := range rightWorkers() {
			if workers > 3 && workers < 16 && (i+workers)%4 != 0 {
				continue
			}
			if _, e := encodes(t, w.frame, w.config, workers); e != api.OK {
				t.Fatal(e)
			}
		}
	}
}

// L1: the ladder is gone up to the first rung that keeps to the cap; ErrCap, if there is none.
func TestP14_1EncodeByCaps(t *testing.T) {
	c := chance(3)
	steps := map[int]int{}
	refused := 0
	for _, s := range []api.Shape{small, {Width: 48, Height: 32, Depth: 12}, {Width: 9, Height: 7, Depth: 10}} {
		for _, parity := range []int{0, 1, 5} {
			f := mixed(s, &c)
			k := api.Config{SliceW: 16, SliceH: 16, Ladder: []api.Rung{{}, {1, 1, 1}, {5, 5, 5}, {2, 2, 2}, {40, 50, 60}}, Parity: parity}
			bound, _ := picture.Bound(s, k)
			caps := []int{0, 1, 31, bound - 1, bound, bound + 1, 1 << 27, math.MaxInt}
			for step := range k.Ladder {
				x, e := picture.At(f, k, step)
				if e != api.OK {
					t.Fatal(e)
				}
				caps = append(caps, len(x.Bytes)-1, len(x.Bytes), len(x.Bytes)+1)
			}
			for _, most := range caps {
				k.Cap = most
				for _, workers := range []int{1, 2, 4, 16} {
					x, e := encodes(t, f, k, workers)
					if e == api.ErrCap {
						refused++
					} else {
						steps[x.Step]++
					}
				}
			}
		}
	}
	if refused == 0 || steps[0] == 0 || steps[1] == 0 || steps[2] == 0 || steps[4] == 0 {
		t.Error("not all rungs are told", steps, refused)
	}
}

// P2: what picture refuses is refused by the same error: the frame's first, then the configuration's.
func TestP2EncodeRefuses(t *testing.T) {
	for _, workers := range []int{1, 2, 7, 16} {
		for want, f := range wrongFrames() {
			for _, c := range append(wrongConfigs(), plain) {
				if x, e := encodes(t, f, c, workers); !nothingCoded(x) || e != want {
					t.Fatal(f.Shape, c, x, e)
				}
			}
		}
		for _, c := range wrongConfigs() {
			if x, e := encodes(t, flat(small, 9), c, workers); !nothingCoded(x) || e != api.ErrPictureConfig {
				t.Fatal(c, x, e)
			}
		}
		tight := plain
		tight.Cap = 1
		if x, e := encodes(t, flat(small, 9), tight, workers); !nothingCoded(x) || e != api.ErrCap {
			t.Fatal(x, e)
		}
		// There are 201 slices: too many for parity.
		many := api.Shape{Width: 48, Height: 67 * 16, Depth: 10}
		if x, e := encodes(t, flat(many, 9), plain, workers); !nothingCoded(x) || e != api.ErrPictureConfig {
			t.Fatal(x, e)
		}
	}
}

// The document's records of ramp and flat.
func TestEncodeExamples(t *testing.T) {
	s := api.Shape{Width: 48, Height: 32, Depth: 10}
	c := api.Config{SliceW: 16, SliceH: 16, Ladder: []api.Rung{{}}}
	for _, workers := range rightWorkers() {
		if x, e := pool.Encode(ramp(s), c, workers); len(x.Bytes) != 1062 || crc.Sum(x.Bytes) != 0x527d3982 || e != api.OK {
			t.Error(workers, len(x.Bytes), e)
		}
		if x, e := pool.Encode(flat(s, 100), c, workers); len(x.Bytes) != 300 || crc.Sum(x.Bytes) != 0x8d81850a || e != api.OK {
			t.Error(workers, len(x.Bytes), e)
		}
		two := c
		two.Ladder, two.Parity = []api.Rung{{1, 1, 1, 0}}, 2
		if x, e := pool.Encode(ramp(s), two, workers); len(x.Bytes) != 1209 || e != api.OK {
			t.Error(workers, len(x.Bytes), e)
		}
	}
}

// The greatest frame in as many slices as there are, and in one.
func TestEncodeTheGreatest(t *testing.T) {
	s := api.Shape{Width: 4096, Height: 512, Depth: 12}
	f := frameOf(s, func(p, x, y int) int { return 16*(x/64+y/32) + p })
	for _, c := range []api.Config{{SliceW: 16, SliceH: 16, Ladder: []api.Rung{{}}}, {SliceW: 4096, SliceH: 4096, Ladder: []api.Rung{{}}, Parity: 1}} {
		want, _ := picture.Encode(f, c)
		for _, workers := range []int{1, 8, 16} {
			if x, e := pool.Encode(f, c, workers); !sameCoded(x, want) || e != api.OK {
				t.Fatal(c, workers, e)
			}
		}
	}
}

// When it has answered, all goroutines have ended.
func TestEncodeEnds(t *testing.T) {
	before := runtime.NumGoroutine()
	f := ramp(api.Shape{Width: 64, Height: 64, Depth: 10})
	tight := plain
	tight.Cap = 1
	for _, workers := range append(rightWorkers(), wrongWorkers()...) {
		pool.Encode(f, plain, workers)
		ended(t, before)
		pool.Encode(f, tight, workers)
		ended(t, before)
		pool.Encode(api.Frame{}, plain, workers)
		ended(t, before)
	}
}
