package plane_test

import (
	"fmt"
	"math"
	"slices"
	"testing"

	"dailies/api"
	"dailies/plane"
)

// around are all rectangles that begin at most one ahead of w by h samples and are at most one too long, and some of numbers whose sums go round.
func around(w, h int) []api.Rect {
	var out []api.Rect
	for x := -1; x <= w+1; x++ {
		for y := -1; y <= h+1; y++ {
			for rw := -1; rw <= w+1; rw++ {
				for rh := -1; rh <= h+1; rh++ {
					out = append(out, api.Rect{X: x, Y: y, W: rw, H: rh})
				}
			}
		}
	}
	for _, n := range odd() {
		for _, m := range []int{0, 1, 2, n, -n, math.MaxInt - n + 1, math.MinInt - n} {
			out = append(out, api.Rect{X: n, W: m, H: 1}, api.Rect{X: m, W: n, H: 1}, api.Rect{Y: n, W: 1, H: m}, api.Rect{Y: m, W: 1, H: n})
		}
	}
	for _, n := range []int{1, 2, 3} { // X + W goes round to n
		out = append(out, api.Rect{X: n, W: math.MaxInt, H: 1}, api.Rect{Y: n, W: 1, H: math.MaxInt}, api.Rect{X: math.MaxInt, W: n, H: 1}, api.Rect{Y: math.MaxInt, W: 1, H: n})
	}
	return out
}

// inside tells whether a sample stands in a rectangle; it is asked of small ones alone.
func inside(r api.Rect, x, y int) bool { return x >= r.X && x-r.X < r.W && y >= r.Y && y-r.Y < r.H }

// within tells whether a rectangle has samples, and all of them stand in w by h.
func within(r api.Rect, w, h int) bool {
	if r.X < 0 || r.Y < 0 || r.W < 1 || r.H < 1 || r.X > w || r.Y > h || r.W > w || r.H > h {
		return false
	}
	return r.X+r.W <= w && r.Y+r.H <= h
}

// taken has the samples of a plane of this width that stand in a rectangle, found by asking each.
func taken(samples []uint16, width int, r api.Rect) []uint16 {
	var out []uint16
	for i, sample := range samples {
		if inside(r, i%width, i/width) {
			out = append(out, sample)
		}
	}
	return out
}

// entire tells whether a rectangle is whole: no sample of chroma has one luma in it and one beside it.
func entire(s api.Shape, r api.Rect) bool {
	if !within(r, s.Width, s.Height) {
		return false
	}
	for x := 0; x+1 < s.Width; x += 2 {
		if inside(r, x, r.Y) != inside(r, x+1, r.Y) {
			return false
		}
	}
	return true
}

// owned is the part of a plane that belongs to a rectangle that is whole, found by asking each sample of a row.
func owned(s api.Shape, p int, r api.Rect) api.Rect {
	if p == api.Luma || p == api.Alpha {
		return r
	}
	part := api.Rect{X: -1, Y: r.Y, H: r.H}
	for x := range wide(s, p) {
		if inside(r, 2*x, r.Y) {
			if part.X < 0 {
				part.X = x
			}
			part.W++
		}
	}
	return part
}

// sameFrame tells whether two frames are the same, apart from Same.
func sameFrame(a, b api.Frame) bool {
	return a.Shape == b.Shape && slices.EqualFunc(a.Planes, b.Planes, slices.Equal)
}

// nothing tells whether a frame is zero.
func nothing(f api.Frame) bool { return f.Shape == (api.Shape{}) && len(f.Planes) == 0 }

// emptyBlock tells whether a block is zero.
func emptyBlock(b api.Block) bool { return b.W == 0 && b.H == 0 && len(b.Samples) == 0 }

func TestCropAllRectangles(t *testing.T) {
	c := chance(11)
	for _, s := range small() {
		f := c.frame(s)
		for p := range f.Planes {
			w := wide(s, p)
			for _, r := range around(w, s.Height) {
				b, e := plane.Crop(f, p, r)
				if !within(r, w, s.Height) {
					if e != api.ErrPlaneRect || !emptyBlock(b) {
						t.Fatal(s, p, r, b, e)
					}
					continue
				}
				if e != api.OK || b.W != r.W || b.H != r.H || !slices.Equal(b.Samples, taken(f.Planes[p], w, r)) {
					t.Fatal(s, p, r, b, e)
				}
			}
		}
	}
}

func TestCropPlanesThatAreNotThere(t *testing.T) {
	c := chance(12)
	for _, s := range small() {
		f := c.frame(s)
		for _, p := range append(odd(), count(s), 4) {
			if b, e := plane.Crop(f, p, api.Rect{W: 1, H: 1}); e != api.ErrPlaneRect || !emptyBlock(b) {
				t.Fatal(s, p, b, e)
			}
			if g, e := plane.Paste(f, p, 0, 0, api.Block{W: 1, H: 1, Samples: []uint16{1}}); e != api.ErrPlaneRect || !nothing(g) {
				t.Fatal(s, p, e)
			}
			if g, e := plane.Paste(f, p, 0, 0, api.Block{W: 1, H: 1, Samples: []uint16{65535, 65535}}); e != api.ErrPlaneRect || !nothing(g) {
				t.Fatal("Paste's order", s, p, e)
			}
			if r, e := plane.Half(s, p, api.Rect{W: s.Width, H: 1}); e != api.ErrPlaneRect || r != (api.Rect{}) {
				t.Fatal(s, p, r, e)
			}
		}
	}
}

// wrongFrames are frames that may not be, each with its error, and with more errors that are named behind it.
func wrongFrames() map[api.Errno]api.Frame {
	c := chance(13)
	s := api.Shape{Width: 5, Height: 2, Depth: 10}
	shape, planes, size, sample := c.frame(s), c.frame(s), c.frame(s), c.frame(s)
	shape.Shape.Height = 0
	shape.Planes = nil
	planes.Planes = planes.Planes[:2]
	planes.Planes[0] = nil
	size.Planes[2] = size.Planes[2][:5]
	size.Planes[0][0] = 1024
	sample.Planes[2][5] = 1024
	return map[api.Errno]api.Frame{api.ErrPlaneShape: shape, api.ErrPlanePlanes: planes, api.ErrPlaneSize: size, api.ErrPlaneSample: sample}
}

func TestFramesThatMayNotBeComeFirst(t *testing.T) {
	c := chance(14)
	good := c.frame(api.Shape{Width: 4, Height: 4, Depth: 12})
	for want, f := range wrongFrames() {
		for _, p := range []int{api.Luma, 7} {
			if b, e := plane.Crop(f, p, api.Rect{X: -1}); e != want || !emptyBlock(b) {
				t.Error("Crop", p, want, e)
			}
			if g, e := plane.Paste(f, p, -1, 0, api.Block{Samples: []uint16{65535}}); e != want || !nothing(g) {
				t.Error("Paste", p, want, e)
			}
			if x, e := plane.Error(f, good, p); e != want || x != 0 {
				t.Error("Error", p, want, e)
			}
			if x, e := plane.Error(good, f, p); e != want || x != 0 {
				t.Error("Error", p, want, e)
			}
		}
		if g, e := plane.Cut(f, api.Rect{X: -1}); e != want || !nothing(g) {
			t.Error("Cut", want, e)
		}
		if far, e := plane.Apart(f, good); e != want || far != (api.Rung{}) {
			t.Error("Apart", want, e)
		}
		if far, e := plane.Apart(good, f); e != want || far != (api.Rung{}) {
			t.Error("Apart", want, e)
		}
		for other, g := range wrongFrames() {
			if _, e := plane.Apart(f, g); e != want {
				t.Error("Apart of two that may not be", want, other, e)
			}
			if _, e := plane.Error(f, g, api.Luma); e != want {
				t.Error("Error of two that may not be", want, other, e)
			}
		}
	}
}

func TestPasteAllRectangles(t *testing.T) {
	c := chance(15)
	for _, s := range small() {
		f := c.frame(s)
		for p := range f.Planes {
			w := wide(s, p)
			for _, r := range around(w, s.Height) {
				if !within(r, w, s.Height) {
					g, e := plane.Paste(f, p, r.X, r.Y, api.Block{W: r.W, H: r.H, Samples: []uint16{65535}})
					if e != api.ErrPlaneRect || !nothing(g) {
						t.Fatal(s, p, r, e)
					}
					continue
				}
				b := api.Block{W: r.W, H: r.H, Samples: c.samples(r.W*r.H, s.Depth)}
				g, e := plane.Paste(f, p, r.X, r.Y, b)
				if e != api.OK || !sameFrame(g, pasted(f, p, r, b.Samples)) {
					t.Fatal(s, p, r, b, g, e)
				}
			}
		}
	}
}

// pasted is what Paste must tell, sample by sample.
func pasted(f api.Frame, p int, r api.Rect, samples []uint16) api.Frame {
	g := api.Frame{Shape: f.Shape}
	for _, all := range f.Planes {
		g.Planes = append(g.Planes, slices.Clone(all))
	}
	for i := range g.Planes[p] {
		if w := wide(f.Shape, p); inside(r, i%w, i/w) {
			g.Planes[p][i], samples = samples[0], samples[1:]
		}
	}
	return g
}

func TestPasteBlocksThatMayNotBe(t *testing.T) {
	c := chance(16)
	for _, s := range small() {
		f := c.frame(s)
		most := uint16(1<<s.Depth - 1)
		for p := range f.Planes {
			w := wide(s, p)
			right := c.samples(w*s.Height, s.Depth)
			right[0] = most
			right[len(right)-1] = most
			if _, e := plane.Paste(f, p, 0, 0, api.Block{W: w, H: s.Height, Samples: right}); e != api.OK {
				t.Fatal("samples of MAX", s, p, e)
			}
			for _, n := range []int{len(right) - 1, len(right) + 1, len(right) + w, 0} {
				long := slices.Repeat([]uint16{most + 1}, n) // too many or too few come ahead of too great
				g, e := plane.Paste(f, p, 0, 0, api.Block{W: w, H: s.Height, Samples: long})
				if e != api.ErrPlaneSize || !nothing(g) {
					t.Fatal(s, p, n, e)
				}
			}
			for i := range right {
				wrong := slices.Clone(right)
				wrong[i] = most + 1
				g, e := plane.Paste(f, p, 0, 0, api.Block{W: w, H: s.Height, Samples: wrong})
				if e != api.ErrPlaneSample || !nothing(g) {
					t.Fatal(s, p, i, e)
				}
			}
		}
		if g, e := plane.Paste(f, 0, 0, 0, api.Block{}); e != api.ErrPlaneRect || !nothing(g) {
			t.Fatal("a block of nothing", e)
		}
	}
}

// W times H goes round to 0 here: the rectangle is refused ahead of that.
func TestPasteBlockWhoseProductGoesRound(t *testing.T) {
	c := chance(17)
	f := c.frame(api.Shape{Width: 5, Height: 2, Depth: 10})
	for _, b := range []api.Block{{W: 1 << 32, H: 1 << 32}, {W: 1 << 62, H: 4}, {W: -1, H: -1, Samples: []uint16{1}}, {W: math.MinInt, H: 2}} {
		if g, e := plane.Paste(f, api.Luma, 0, 0, b); e != api.ErrPlaneRect || !nothing(g) {
			t.Error(b, e)
		}
	}
}

func TestP6_1CropOfPasteAndPasteOfCrop(t *testing.T) {
	c := chance(18)
	for range 500 {
		s := c.shape(40)
		f := c.frame(s)
		p := c.below(count(s))
		r := api.Rect{W: 1 + c.below(wide(s, p)), H: 1 + c.below(s.Height)}
		r.X, r.Y = c.below(wide(s, p)-r.W+1), c.below(s.Height-r.H+1)
		b := api.Block{W: r.W, H: r.H, Samples: c.samples(r.W*r.H, s.Depth)}
		g, e := plane.Paste(f, p, r.X, r.Y, b)
		wantErrno(t, "Paste", e, api.OK)
		back, e := plane.Crop(g, p, r)
		if e != api.OK || back.W != b.W || back.H != b.H || !slices.Equal(back.Samples, b.Samples) {
			t.Fatal("Crop of Paste", s, p, r, e)
		}
		out, e := plane.Crop(f, p, r)
		wantErrno(t, "Crop", e, api.OK)
		if g, e := plane.Paste(f, p, r.X, r.Y, out); e != api.OK || !sameFrame(f, g) {
			t.Fatal("Paste of Crop", s, p, r, e)
		}
		if g, e := plane.Paste(g, p, r.X, r.Y, out); e != api.OK || !sameFrame(f, g) {
			t.Fatal("Paste of Crop, where it was pasted over", s, p, r, e)
		}
	}
}

func TestHalfAllRectangles(t *testing.T) {
	for _, s := range small() {
		for _, r := range around(s.Width, s.Height) {
			for p := range count(s) {
				part, e := plane.Half(s, p, r)
				if !entire(s, r) {
					if e != api.ErrPlaneRect || part != (api.Rect{}) {
						t.Fatal(s, p, r, part, e)
					}
					continue
				}
				if want := owned(s, p, r); e != api.OK || part != want {
					t.Fatal(s, p, r, part, e, want)
				}
			}
		}
	}
}

func TestCutAllRectangles(t *testing.T) {
	c := chance(19)
	for _, s := range small() {
		f := c.frame(s)
		for _, r := range around(s.Width, s.Height) {
			g, e := plane.Cut(f, r)
			if !entire(s, r) {
				if e != api.ErrPlaneRect || !nothing(g) {
					t.Fatal(s, r, e)
				}
				continue
			}
			want := api.Frame{Shape: api.Shape{Width: r.W, Height: r.H, Depth: s.Depth, Alpha: s.Alpha}}
			for p, samples := range f.Planes {
				want.Planes = append(want.Planes, taken(samples, wide(s, p), owned(s, p, r)))
			}
			if e != api.OK || !sameFrame(g, want) || plane.Valid(g) != api.OK {
				t.Fatal(s, r, g, e)
			}
		}
	}
}

// split cuts a rectangle that is whole into ones that are whole, by chance.
func split(c *chance, r api.Rect, depth int) []api.Rect {
	if depth == 0 {
		return []api.Rect{r}
	}
	if c.below(2) == 0 && r.W > 2 {
		w := 2 * (1 + c.below((r.W-1)/2))
		return append(split(c, api.Rect{X: r.X, Y: r.Y, W: w, H: r.H}, depth-1), split(c, api.Rect{X: r.X + w, Y: r.Y, W: r.W - w, H: r.H}, depth-1)...)
	}
	if r.H > 1 {
		h := 1 + c.below(r.H-1)
		return append(split(c, api.Rect{X: r.X, Y: r.Y, W: r.W, H: h}, depth-1), split(c, api.Rect{X: r.X, Y: r.Y + h, W: r.W, H: r.H - h}, depth-1)...)
	}
	return []api.Rect{r}
}

func TestP6_2PartsOfChromaFillThePlane(t *testing.T) {
	c := chance(20)
	for range 300 {
		s := c.shape(30)
		rects := split(&c, api.Rect{W: s.Width, H: s.Height}, 4)
		for p := range count(s) {
			w := wide(s, p)
			seen := make([]int, w*s.Height)
			for _, r := range rects {
				part, e := plane.Half(s, p, r)
				if e != api.OK || !within(part, w, s.Height) {
					t.Fatal(s, p, r, part, e)
				}
				for i := range seen {
					if inside(part, i%w, i/w) {
						seen[i]++
					}
				}
			}
			if slices.Min(seen) != 1 || slices.Max(seen) != 1 {
				t.Fatal(s, p, rects, seen)
			}
		}
	}
}

// someWhole is a rectangle that is whole, by chance.
func someWhole(c *chance, s api.Shape) api.Rect {
	for {
		r := api.Rect{X: c.below(s.Width), Y: c.below(s.Height)}
		r.W, r.H = 1+c.below(s.Width-r.X), 1+c.below(s.Height-r.Y)
		if entire(s, r) {
			return r
		}
	}
}

func TestP6_3CutOfCutIsCut(t *testing.T) {
	c := chance(21)
	for range 1000 {
		f := c.frame(c.shape(20))
		r := someWhole(&c, f.Shape)
		g, e := plane.Cut(f, r)
		wantErrno(t, "Cut", e, api.OK)
		q := someWhole(&c, g.Shape)
		twice, e := plane.Cut(g, q)
		wantErrno(t, "Cut of Cut", e, api.OK)
		once, e := plane.Cut(f, api.Rect{X: r.X + q.X, Y: r.Y + q.Y, W: q.W, H: q.H})
		if e != api.OK || !sameFrame(once, twice) {
			t.Fatal(f.Shape, r, q, e)
		}
	}
}

func TestCutOfAllIsTheFrame(t *testing.T) {
	c := chance(22)
	for _, s := range append(small(), api.Shape{Width: 4096, Height: 512, Depth: 12}, api.Shape{Width: 1, Height: 4096, Depth: 10, Alpha: true}) {
		f := c.frame(s)
		if g, e := plane.Cut(f, api.Rect{W: s.Width, H: s.Height}); e != api.OK || !sameFrame(f, g) {
			t.Fatal(s, e)
		}
	}
}

func TestExamplesOfHalf(t *testing.T) {
	s := api.Shape{Width: 5, Height: 2, Depth: 10}
	for _, x := range []struct {
		r, want api.Rect
		e       api.Errno
	}{
		{api.Rect{X: 2, W: 3, H: 2}, api.Rect{X: 1, W: 2, H: 2}, api.OK},
		{api.Rect{X: 2, W: 1, H: 2}, api.Rect{}, api.ErrPlaneRect},
		{api.Rect{X: 1, W: 2, H: 2}, api.Rect{}, api.ErrPlaneRect},
		{api.Rect{Y: 1, W: 2, H: 1}, api.Rect{Y: 1, W: 1, H: 1}, api.OK},
	} {
		for _, p := range []int{api.Blue, api.Red} {
			if r, e := plane.Half(s, p, x.r); r != x.want || e != x.e {
				t.Error(fmt.Sprint(p, x.r), r, e)
			}
		}
	}
}
