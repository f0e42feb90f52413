package conform_test

import (
	"slices"
	"testing"

	"dailies/api"
	"dailies/conform"
	"dailies/plane"
)

// mixes looks whether Mix tells what K2 says of two frames of one shape.
func mixes(t *testing.T, a, b api.Frame, part, of int) api.Frame {
	t.Helper()
	f, e := conform.Mix(a, b, part, of)
	must(t, e, api.OK)
	if !plane.Same(f, mixedFrames(a, b, part, of)) {
		t.Fatal("another mixture:", part, of)
	}
	return f
}

// unmixed looks whether Mix refuses, and tells nothing else.
func unmixed(t *testing.T, a, b api.Frame, part, of int, want api.Errno) {
	t.Helper()
	f, e := conform.Mix(a, b, part, of)
	if e != want || f.Shape != (api.Shape{}) || len(f.Planes) != 0 {
		t.Fatalf("Mix by %d of %d: %v, and not %v", part, of, e, want)
	}
}

// K2: the chapter's examples.
func TestK2Examples(t *testing.T) {
	for _, x := range []struct{ a, b, part, of, want int }{{10, 20, 1, 3, 13}, {10, 20, 1, 2, 15}, {3, 4, 1, 2, 4}} {
		f := mixes(t, flat(small(), x.a), flat(small(), x.b), x.part, x.of)
		if !plane.Same(f, flat(small(), x.want)) {
			t.Fatal(x)
		}
	}
	for _, x := range [][2]int{{0, 0}, {2, 1}, {1, 102}} {
		unmixed(t, flat(small(), 10), flat(small(), 20), x[0], x[1], api.ErrArg)
	}
}

// edges are samples of a depth: nought, the greatest, those beside them, and some between.
func edges(depth int) []int {
	most := 1<<depth - 1
	return []int{0, 1, 2, 3, 4, 49, 50, 51, 100, 101, 102, most / 3, most / 2, most/2 + 1, most - 102, most - 101, most - 100, most - 3, most - 2, most - 1, most}
}

// K2, P20.3: by all parts of all numbers of parts, of samples at nought, at the greatest, and between, each with each: rounded as the chapter says, and never beyond the two; by no part the first frame, by all parts the second one.
func TestK2AllParts(t *testing.T) {
	for _, depth := range []int{10, 12} {
		list := edges(depth)
		n := len(list)
		s := api.Shape{Width: n, Height: n, Depth: depth, Alpha: true}
		a := painted(s, func(p, i int) int { return list[(i/n+p)%n] })
		b := painted(s, func(p, i int) int { return list[(i+p)%n] })
		for of := 1; of <= 101; of++ {
			for part := range of + 1 {
				f := mixes(t, a, b, part, of)
				between(t, a, b, f)
				if part == 0 && !plane.Same(f, a) || part == of && !plane.Same(f, b) {
					t.Fatal("not the one itself:", part, of)
				}
			}
		}
	}
}

// between looks whether each sample lies between those of two frames.
func between(t *testing.T, a, b, f api.Frame) {
	t.Helper()
	if f.Shape != a.Shape || plane.Valid(f) != api.OK {
		t.Fatal(f.Shape, plane.Valid(f))
	}
	for p, list := range f.Planes {
		for i, v := range list {
			if v < min(a.Planes[p][i], b.Planes[p][i]) || v > max(a.Planes[p][i], b.Planes[p][i]) {
				t.Fatal("beyond the two:", a.Planes[p][i], b.Planes[p][i], v)
			}
		}
	}
}

// K2: samples where the rounding decides: whatever is half a sample goes up, whatever is less goes down.
func TestK2Rounding(t *testing.T) {
	for _, x := range []struct{ a, b, part, of, want int }{
		{0, 1, 1, 2, 1}, {1, 0, 1, 2, 1}, {1022, 1023, 1, 2, 1023}, {1023, 1022, 1, 2, 1023},
		{0, 1, 1, 3, 0}, {0, 1, 2, 3, 1}, {1, 0, 1, 3, 1}, {1, 0, 2, 3, 0},
		{0, 1, 1, 4, 0}, {0, 1, 2, 4, 1}, {0, 1, 3, 4, 1}, {1, 0, 2, 4, 1},
		{0, 1, 50, 101, 0}, {0, 1, 51, 101, 1}, {0, 1, 49, 100, 0}, {0, 1, 50, 100, 1},
		{0, 3, 1, 6, 1}, {0, 2, 1, 6, 0}, {0, 1023, 1, 101, 10}, {1023, 0, 1, 101, 1013}, {0, 1023, 100, 101, 1013}, {0, 1023, 1, 2, 512}, {1023, 0, 1, 2, 512},
		{7, 7, 1, 2, 7}, {1023, 1023, 50, 101, 1023}, {0, 0, 50, 101, 0}, {5, 9, 0, 1, 5}, {5, 9, 1, 1, 9},
	} {
		f := mixes(t, flat(small(), x.a), flat(small(), x.b), x.part, x.of)
		if !plane.Same(f, flat(small(), x.want)) {
			t.Fatal(x, f.Planes[0][0])
		}
	}
	deep := shapes()[1]
	if f := mixes(t, flat(deep, 0), flat(deep, 4095), 1, 2); !plane.Same(f, flat(deep, 2048)) {
		t.Fatal(f.Planes[0][0])
	}
}

// K2: parts that may not be are refused ahead of all frames, those that may not be, too.
func TestK2Parts(t *testing.T) {
	good, other := flat(small(), 3), flat(shapes()[1], 3)
	frames := []api.Frame{good, other, {}}
	for _, f := range noFrames() {
		frames = append(frames, f)
	}
	for _, a := range frames {
		for _, b := range frames {
			for _, n := range slices.Concat(odd(), great(), []int{0}) {
				for _, part := range []int{0, 1, -1, n, n - 1, n + 1} {
					unmixed(t, a, b, part, n, api.ErrArg)
				}
			}
			for _, of := range []int{1, 2, 3, 100, 101} {
				for _, part := range slices.Concat(odd(), great(), []int{of + 1, of + 2}) {
					unmixed(t, a, b, part, of, api.ErrArg)
				}
			}
		}
	}
	for _, of := range []int{1, 101} {
		for _, part := range []int{0, 1, of - 1, of} {
			mixes(t, good, flat(small(), 900), part, of)
		}
	}
}

// K2: frames that may not be: the first one's error, then the second one's, then their shapes.
func TestK2FramesThatMayNotBe(t *testing.T) {
	for e, bad := range noFrames() {
		must(t, plane.Valid(bad), e)
		for _, x := range [][2]int{{0, 1}, {1, 1}, {1, 2}, {50, 101}} {
			for _, good := range []api.Frame{flat(small(), 3), flat(shapes()[1], 3), flat(shapes()[2], 3)} {
				unmixed(t, bad, good, x[0], x[1], e)
				unmixed(t, good, bad, x[0], x[1], e)
			}
			for _, second := range noFrames() {
				unmixed(t, bad, second, x[0], x[1], e)
			}
			unmixed(t, bad, api.Frame{}, x[0], x[1], e)
			unmixed(t, api.Frame{}, bad, x[0], x[1], api.ErrPlaneShape)
		}
	}
}

// K2: frames of two shapes, each with each; by no part and by all parts, too.
func TestK2Shapes(t *testing.T) {
	for i, s := range shapes() {
		for j, r := range shapes() {
			for _, x := range [][2]int{{0, 1}, {1, 1}, {1, 3}} {
				if i == j {
					mixes(t, flat(s, 3), flat(r, 800), x[0], x[1])
				} else {
					unmixed(t, flat(s, 3), flat(r, 3), x[0], x[1], api.ErrConformShape)
				}
			}
		}
	}
}

// P20.3: of frames by chance: part 0 is the first, all parts the second, nothing leaves what lies between, and a frame with itself is that frame.
func TestP20_3ByChance(t *testing.T) {
	c := chance(203)
	for _, s := range shapes() {
		for range 20 {
			a, b := noisy(&c, s), noisy(&c, s)
			of := 1 + c.below(101)
			if !plane.Same(mixes(t, a, b, 0, of), a) || !plane.Same(mixes(t, a, b, of, of), b) {
				t.Fatal("not the one itself:", of)
			}
			for range 10 {
				part := c.below(of + 1)
				between(t, a, b, mixes(t, a, b, part, of))
				if !plane.Same(mixes(t, a, a, part, of), a) {
					t.Fatal("a frame with itself is another one:", part, of)
				}
			}
		}
	}
}
