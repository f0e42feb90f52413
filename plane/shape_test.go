package plane_test

import (
	"fmt"
	"math"
	"testing"

	"dailies/api"
	"dailies/plane"
)

// chance is a row of numbers that look like chance and are the same each time.
type chance uint64

func (c *chance) below(n int) int {
	*c = *c*6364136223846793005 + 1442695040888963407
	return int(uint64(*c)>>33) % n
}

// samples are n of this depth.
func (c *chance) samples(n, depth int) []uint16 {
	out := make([]uint16, n)
	for i := range out {
		out[i] = uint16(c.below(1 << depth))
	}
	return out
}

// frame has samples by chance; its shape must be one that may be.
func (c *chance) frame(s api.Shape) api.Frame {
	f := api.Frame{Shape: s}
	for p := range count(s) {
		f.Planes = append(f.Planes, c.samples(wide(s, p)*s.Height, s.Depth))
	}
	return f
}

// shape is one of small sides.
func (c *chance) shape(most int) api.Shape {
	return api.Shape{Width: 1 + c.below(most), Height: 1 + c.below(most), Depth: 10 + 2*c.below(2), Alpha: c.below(2) == 1}
}

// count is how many planes a shape has.
func count(s api.Shape) int {
	if s.Alpha {
		return 4
	}
	return 3
}

// wide is a plane's width: of chroma as many samples as there are ones whose first luma is there.
func wide(s api.Shape, p int) int {
	if p == api.Luma || p == api.Alpha {
		return s.Width
	}
	n := 0
	for 2*n < s.Width {
		n++
	}
	return n
}

// small are shapes whose rectangles can all be gone through.
func small() []api.Shape {
	var out []api.Shape
	for _, alpha := range []bool{false, true} {
		for _, depth := range []int{10, 12} {
			for _, w := range []int{1, 2, 5, 6} {
				for _, h := range []int{1, 3} {
					out = append(out, api.Shape{Width: w, Height: h, Depth: depth, Alpha: alpha})
				}
			}
		}
	}
	return out
}

// odd are numbers that no side, place or plane has.
func odd() []int {
	return []int{-1, -2, 4097, math.MinInt, math.MinInt + 1, math.MaxInt, math.MaxInt - 1, 1 << 32, 1<<32 + 1, -1 << 32, math.MaxInt / 2}
}

// wantErrno holds an error against what it must be.
func wantErrno(t *testing.T, what string, got, want api.Errno) {
	t.Helper()
	if got != want {
		t.Fatalf("%s: %v; want %v", what, got, want)
	}
}

// refused holds the answers of all that takes a shape against ErrPlaneShape, and against nothing beside it.
func refused(t *testing.T, s api.Shape) {
	t.Helper()
	what := fmt.Sprint(s)
	wantErrno(t, "Shaped "+what, plane.Shaped(s), api.ErrPlaneShape)
	if w, h, e := plane.Size(s, api.Luma); w != 0 || h != 0 || e != api.ErrPlaneShape {
		t.Fatal("Size", what, w, h, e)
	}
	if n, e := plane.Samples(s); n != 0 || e != api.ErrPlaneShape {
		t.Fatal("Samples", what, n, e)
	}
	if f, e := plane.New(s); f.Planes != nil || f.Shape != (api.Shape{}) || e != api.ErrPlaneShape {
		t.Fatal("New", what, e)
	}
	if r, e := plane.Half(s, api.Luma, api.Rect{W: 1, H: 1}); r != (api.Rect{}) || e != api.ErrPlaneShape {
		t.Fatal("Half", what, r, e)
	}
	wantErrno(t, "Valid "+what, plane.Valid(api.Frame{Shape: s, Planes: make([][]uint16, 3)}), api.ErrPlaneShape)
}

func TestShapedSides(t *testing.T) {
	for _, alpha := range []bool{false, true} {
		for _, depth := range []int{10, 12} {
			for _, side := range []int{1, 2, 3, 4095, 4096} {
				for _, s := range []api.Shape{{Width: side, Height: 1}, {Width: 1, Height: side}, {Width: side, Height: 300}} {
					s.Depth, s.Alpha = depth, alpha
					wantErrno(t, fmt.Sprint(s), plane.Shaped(s), api.OK)
				}
			}
			for _, side := range append(odd(), 0, 4098, 65536) {
				refused(t, api.Shape{Width: side, Height: 1, Depth: depth, Alpha: alpha})
				refused(t, api.Shape{Width: 1, Height: side, Depth: depth, Alpha: alpha})
				refused(t, api.Shape{Width: side, Height: side, Depth: depth, Alpha: alpha})
			}
		}
	}
	refused(t, api.Shape{})
}

func TestShapedDepths(t *testing.T) {
	for depth := -20; depth <= 80; depth++ {
		s := api.Shape{Width: 4, Height: 4, Depth: depth}
		if depth == 10 || depth == 12 {
			wantErrno(t, fmt.Sprint(s), plane.Shaped(s), api.OK)
		} else {
			refused(t, s)
		}
	}
	for _, depth := range append(odd(), 1<<32+10, 1<<32+12, 256+10, 65536+12) {
		refused(t, api.Shape{Width: 4, Height: 4, Depth: depth, Alpha: true})
	}
}

// Of each width the greatest height that keeps to MaxSamples may be, and no greater one.
func TestShapedAsManySamplesAsMayBe(t *testing.T) {
	exact := 0
	for width := 1; width <= 4096; width++ {
		for _, alpha := range []bool{false, true} {
			s := api.Shape{Width: width, Depth: 10 + width%2*2, Alpha: alpha}
			row := width + 2*((width+1)/2)
			if alpha {
				row += width
			}
			most := min(4194304/row, 4096)
			s.Height = most
			n, e := plane.Samples(s)
			if plane.Shaped(s) != api.OK || e != api.OK || n != row*most {
				t.Fatal(s, plane.Shaped(s), n, e)
			}
			if n == 4194304 {
				exact++
			}
			s.Height++
			refused(t, s)
		}
	}
	if exact < 3 {
		t.Fatal("shapes with just as many samples as may be:", exact)
	}
	wantErrno(t, "4096 by 512", plane.Shaped(api.Shape{Width: 4096, Height: 512, Depth: 10}), api.OK)
	wantErrno(t, "1365 by 1024", plane.Shaped(api.Shape{Width: 1365, Height: 1024, Depth: 12, Alpha: true}), api.OK)
	refused(t, api.Shape{Width: 4096, Height: 1024, Depth: 12})
	refused(t, api.Shape{Width: 4096, Height: 4096, Depth: 12, Alpha: true})
}

func TestSizeAndSamples(t *testing.T) {
	c := chance(1)
	shapes := small()
	for range 300 {
		shapes = append(shapes, c.shape(1000))
	}
	for _, s := range shapes {
		sum := 0
		for p := range count(s) {
			w, h, e := plane.Size(s, p)
			if w != wide(s, p) || h != s.Height || e != api.OK {
				t.Fatal(s, p, w, h, e)
			}
			sum += w * h
		}
		if n, e := plane.Samples(s); n != sum || e != api.OK {
			t.Fatal(s, n, e)
		}
		for _, p := range append(odd(), count(s), 4, 5) {
			if w, h, e := plane.Size(s, p); w != 0 || h != 0 || e != api.ErrPlaneRect {
				t.Fatal(s, p, w, h, e)
			}
		}
	}
	if w, h, e := plane.Size(api.Shape{}, 9); w != 0 || h != 0 || e != api.ErrPlaneShape {
		t.Fatal("a shape that may not be comes ahead of a plane that is not there:", e)
	}
}

func TestNewIsNoughts(t *testing.T) {
	shapes := append(small(), api.Shape{Width: 4096, Height: 512, Depth: 12}, api.Shape{Width: 1365, Height: 1024, Depth: 10, Alpha: true}, api.Shape{Width: 1, Height: 4096, Depth: 10})
	for _, s := range shapes {
		f, e := plane.New(s)
		if e != api.OK || f.Shape != s || len(f.Planes) != count(s) {
			t.Fatal(s, e, f.Shape, len(f.Planes))
		}
		for p, samples := range f.Planes {
			if len(samples) != wide(s, p)*s.Height {
				t.Fatal(s, p, len(samples))
			}
			for i, sample := range samples {
				if sample != 0 {
					t.Fatal(s, p, i, sample)
				}
			}
		}
		wantErrno(t, fmt.Sprint("Valid of New ", s), plane.Valid(f), api.OK)
	}
}

func TestValidPlanes(t *testing.T) {
	c := chance(2)
	for _, s := range small() {
		f := c.frame(s)
		wantErrno(t, fmt.Sprint(s), plane.Valid(f), api.OK)
		all := append(c.frame(s).Planes, c.frame(s).Planes...)
		for n := range all {
			g := api.Frame{Shape: s, Planes: all[:n]}
			if n != count(s) {
				wantErrno(t, fmt.Sprint(s, n), plane.Valid(g), api.ErrPlanePlanes)
			}
		}
		wantErrno(t, "no planes", plane.Valid(api.Frame{Shape: s}), api.ErrPlanePlanes)
		other := f
		other.Shape.Alpha = !s.Alpha
		wantErrno(t, "another alpha", plane.Valid(other), api.ErrPlanePlanes)
	}
}

func TestValidSizes(t *testing.T) {
	c := chance(3)
	for _, s := range small() {
		for p := range count(s) {
			for _, n := range []int{-1, 1, 2, 100} {
				f := c.frame(s)
				f.Planes[p] = c.samples(max(len(f.Planes[p])+n, 0), s.Depth)
				wantErrno(t, fmt.Sprint(s, p, n), plane.Valid(f), api.ErrPlaneSize)
			}
			f := c.frame(s)
			f.Planes[p] = nil
			wantErrno(t, fmt.Sprint(s, p, "nil"), plane.Valid(f), api.ErrPlaneSize)
		}
	}
	f := c.frame(api.Shape{Width: 5, Height: 2, Depth: 10, Alpha: true})
	f.Planes[0], f.Planes[1] = f.Planes[1], f.Planes[0]
	wantErrno(t, "planes in another order", plane.Valid(f), api.ErrPlaneSize)
	f.Planes[0], f.Planes[1] = f.Planes[1], f.Planes[0]
	f.Shape.Width = 4
	wantErrno(t, "another width", plane.Valid(f), api.ErrPlaneSize)
	f.Shape.Width = 6
	wantErrno(t, "a width with as many chroma", plane.Valid(f), api.ErrPlaneSize)
	f.Shape.Width, f.Shape.Height = 5, 3
	wantErrno(t, "another height", plane.Valid(f), api.ErrPlaneSize)
}

func TestValidSamples(t *testing.T) {
	c := chance(4)
	for _, s := range small() {
		most := uint16(1<<s.Depth - 1)
		f := c.frame(s)
		for p := range f.Planes {
			for i, was := range f.Planes[p] {
				for _, x := range []uint16{0, most} {
					f.Planes[p][i] = x
					wantErrno(t, fmt.Sprint(s, p, i, x), plane.Valid(f), api.OK)
				}
				for _, x := range []uint16{most + 1, most + 2, 2 * (most + 1), 1 << 15, 65535} {
					f.Planes[p][i] = x
					wantErrno(t, fmt.Sprint(s, p, i, x), plane.Valid(f), api.ErrPlaneSample)
				}
				f.Planes[p][i] = was
			}
		}
	}
}

// A frame that is wrong in all ways is mended way by way: each time the error is the one that is named next.
func TestValidOrder(t *testing.T) {
	s := api.Shape{Width: 5, Height: 2, Depth: 10, Alpha: true}
	c := chance(5)
	f := c.frame(s)
	f.Planes[api.Luma][0] = 1024
	f.Planes[api.Alpha] = f.Planes[api.Alpha][:9]
	f.Planes = append(f.Planes, nil)
	f.Shape.Depth = 11
	wantErrno(t, "all wrong", plane.Valid(f), api.ErrPlaneShape)
	f.Shape.Depth = 10
	wantErrno(t, "five planes", plane.Valid(f), api.ErrPlanePlanes)
	f.Planes = f.Planes[:4]
	wantErrno(t, "alpha too short", plane.Valid(f), api.ErrPlaneSize)
	f.Planes[api.Alpha] = c.samples(10, 10)
	wantErrno(t, "luma above", plane.Valid(f), api.ErrPlaneSample)
	f.Planes[api.Luma][0] = 1023
	wantErrno(t, "nothing wrong", plane.Valid(f), api.OK)
}

func TestExamplesOfShapes(t *testing.T) {
	s := api.Shape{Width: 5, Height: 2, Depth: 10}
	for p, want := range []int{5, 3, 3} {
		if w, h, e := plane.Size(s, p); w != want || h != 2 || e != api.OK {
			t.Error(p, w, h, e)
		}
	}
	if _, _, e := plane.Size(s, api.Alpha); e != api.ErrPlaneRect {
		t.Error(e)
	}
	if n, e := plane.Samples(s); n != 22 || e != api.OK {
		t.Error(n, e)
	}
	f, _ := plane.New(s)
	f.Planes[2][5] = 1024
	wantErrno(t, "a sample 1024", plane.Valid(f), api.ErrPlaneSample)
	f.Planes = append(f.Planes, []uint16{9999})
	wantErrno(t, "four planes", plane.Valid(f), api.ErrPlanePlanes)
}
