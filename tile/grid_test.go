package tile_test

import (
	"math"
	"testing"

	"dailies/api"
	"dailies/plane"
	"dailies/tile"
)

// chance tells numbers that look as if by chance, the same ones each time.
type chance uint64

func (c *chance) below(n int) int {
	*c = *c*6364136223846793005 + 1442695040888963407
	return int(uint64(*c)>>33) % n
}

// spans are where the slices of one side begin and how long they are, found by taking one off after the other.
func spans(side, slice int) [][2]int {
	var list [][2]int
	at := 0
	for side > slice {
		list = append(list, [2]int{at, slice})
		at += slice
		side -= slice
	}
	return append(list, [2]int{at, side})
}

// rects are the slices' rectangles of luma, row by row.
func rects(s api.Shape, sliceW, sliceH int) []api.Rect {
	var list []api.Rect
	for _, down := range spans(s.Height, sliceH) {
		for _, over := range spans(s.Width, sliceW) {
			list = append(list, api.Rect{X: over[0], Y: down[0], W: over[1], H: down[1]})
		}
	}
	return list
}

// part is what belongs to a rectangle of luma in a plane.
func part(p int, r api.Rect) api.Rect {
	if p == api.Luma || p == api.Alpha {
		return r
	}
	return api.Rect{X: r.X / 2, Y: r.Y, W: (r.W + 1) / 2, H: r.H}
}

// planes is how many a shape has.
func planes(s api.Shape) int {
	if s.Alpha {
		return 4
	}
	return 3
}

// odd are numbers that are hardly any slice, plane, side or place.
func odd() []int {
	return []int{
		math.MinInt, math.MinInt + 1, math.MinInt32, -1 << 32, -4096, -17, -16, -2, -1,
		1 << 31, 1 << 32, 1<<32 + 16, math.MaxInt - 15, math.MaxInt - 1, math.MaxInt,
	}
}

// cut is a shape with the sides of its slices.
type cut struct {
	shape api.Shape
	w, h  int
}

// cuts are grids of all kinds: with alpha and without, of odd widths, narrower and lower than a slice, of one slice, and of a great many.
func cuts() []cut {
	var list []cut
	for _, width := range []int{1, 2, 3, 15, 16, 17, 18, 31, 32, 33, 50, 51, 64} {
		for _, height := range []int{1, 2, 15, 16, 17, 20, 32, 33} {
			for _, sides := range [][2]int{{16, 16}, {16, 17}, {18, 16}, {32, 33}, {64, 20}, {4096, 4096}, {16, 4096}, {4096, 16}} {
				s := api.Shape{Width: width, Height: height, Depth: 10 + 2*(height%2), Alpha: (width+height+sides[1])%3 == 0}
				list = append(list, cut{s, sides[0], sides[1]})
			}
		}
	}
	return append(list,
		cut{api.Shape{Width: 4096, Height: 100, Depth: 10}, 16, 16},
		cut{api.Shape{Width: 4095, Height: 40, Depth: 12, Alpha: true}, 16, 31},
		cut{api.Shape{Width: 99, Height: 4096, Depth: 12}, 34, 16},
		cut{api.Shape{Width: 7, Height: 4095, Depth: 10, Alpha: true}, 16, 4095},
		cut{api.Shape{Width: 4096, Height: 3, Depth: 10}, 4094, 4096},
	)
}

// grid is one that may be.
func (c cut) grid(t *testing.T) *tile.Grid {
	t.Helper()
	g, e := tile.New(c.shape, c.w, c.h)
	if e != api.OK || g == nil {
		t.Fatal(c, e)
	}
	return g
}

// owners are, for each sample of luma, the slice that has it.
func owners(s api.Shape, list []api.Rect) []int {
	owner := make([]int, s.Width*s.Height)
	for i := range owner {
		owner[i] = -1
	}
	for k, r := range list {
		for y := r.Y; y < r.Y+r.H; y++ {
			for x := r.X; x < r.X+r.W; x++ {
				owner[y*s.Width+x] = k
			}
		}
	}
	return owner
}

func TestS1Count(t *testing.T) {
	for _, c := range cuts() {
		if n, want := c.grid(t).Count(), len(spans(c.shape.Width, c.w))*len(spans(c.shape.Height, c.h)); n != want {
			t.Error(c, n, want)
		}
	}
}

func TestS1NewOfShapesThatMayNotBe(t *testing.T) {
	for _, s := range []api.Shape{
		{},
		{Width: 0, Height: 20, Depth: 10},
		{Width: 50, Height: 0, Depth: 10},
		{Width: -50, Height: 20, Depth: 10},
		{Width: 50, Height: -20, Depth: 12, Alpha: true},
		{Width: 50, Height: 20, Depth: 11},
		{Width: 50, Height: 20, Depth: 0},
		{Width: 4097, Height: 20, Depth: 10},
		{Width: 50, Height: 4097, Depth: 10},
		{Width: 4096, Height: 513, Depth: 10},
		{Width: 4096, Height: 512, Depth: 10, Alpha: true},
		{Width: math.MaxInt, Height: math.MinInt, Depth: math.MaxInt},
	} {
		if plane.Shaped(s) != api.ErrPlaneShape {
			t.Fatal(s)
		}
		// The shape comes ahead of the sides.
		for _, sides := range [][2]int{{16, 16}, {15, 16}, {16, 4097}, {0, 0}, {-1, math.MaxInt}} {
			if g, e := tile.New(s, sides[0], sides[1]); g != nil || e != api.ErrPlaneShape {
				t.Error(s, sides, g, e)
			}
		}
	}
}

func TestS1NewOfSides(t *testing.T) {
	for _, s := range []api.Shape{
		{Width: 50, Height: 20, Depth: 10},
		{Width: 1, Height: 1, Depth: 12, Alpha: true},
		{Width: 4096, Height: 512, Depth: 12},
		{Width: 3, Height: 4096, Depth: 10},
	} {
		for w := -2; w <= 4200; w++ {
			for _, h := range []int{16, 17, 4095, 4096} {
				good := w >= 16 && w <= 4096 && w%2 == 0
				if g, e := tile.New(s, w, h); (g != nil) != good || (e == api.OK) != good || !good && e != api.ErrTileSides {
					t.Fatal(s, w, h, g, e)
				}
			}
		}
		for h := -2; h <= 4200; h++ {
			for _, w := range []int{16, 18, 4094, 4096} {
				good := h >= 16 && h <= 4096
				if g, e := tile.New(s, w, h); (g != nil) != good || (e == api.OK) != good || !good && e != api.ErrTileSides {
					t.Fatal(s, w, h, g, e)
				}
			}
		}
		for _, side := range odd() {
			for _, sides := range [][2]int{{side, 16}, {16, side}, {side, side}} {
				if g, e := tile.New(s, sides[0], sides[1]); g != nil || e != api.ErrTileSides {
					t.Error(s, sides, g, e)
				}
			}
		}
	}
}

func TestS2RectAndPart(t *testing.T) {
	for _, c := range cuts() {
		g := c.grid(t)
		for k, want := range rects(c.shape, c.w, c.h) {
			if r, e := g.Rect(k); e != api.OK || r != want {
				t.Fatal(c, k, r, e, want)
			}
			for p := range planes(c.shape) {
				if r, e := g.Part(k, p); e != api.OK || r != part(p, want) {
					t.Fatal(c, k, p, r, e, want)
				}
			}
		}
	}
}

func TestS2SlicesAndPlanesThatAreNotThere(t *testing.T) {
	for _, c := range cuts() {
		g := c.grid(t)
		n := g.Count()
		for _, k := range append(odd(), n, n+1, 2*n+100) {
			if r, e := g.Rect(k); e != api.ErrTileSlice || r != (api.Rect{}) {
				t.Fatal(c, k, r, e)
			}
			for _, p := range []int{0, 1, 2, 3, 4, -1, math.MaxInt} {
				if r, e := g.Part(k, p); e != api.ErrTileSlice || r != (api.Rect{}) {
					t.Fatal(c, k, p, r, e)
				}
			}
		}
		for _, k := range []int{0, n / 2, n - 1} {
			for _, p := range append(odd(), planes(c.shape), 4, 5) {
				if r, e := g.Part(k, p); e != api.ErrTileSlice || r != (api.Rect{}) {
					t.Fatal(c, k, p, r, e)
				}
			}
		}
	}
}

func TestS3At(t *testing.T) {
	for _, c := range cuts() {
		g := c.grid(t)
		for i, want := range owners(c.shape, rects(c.shape, c.w, c.h)) {
			x, y := i%c.shape.Width, i/c.shape.Width
			if k, e := g.At(x, y); e != api.OK || k != want {
				t.Fatal(c, x, y, k, e, want)
			}
		}
	}
}

func TestS3AtBeyondTheFrame(t *testing.T) {
	for _, c := range cuts() {
		g := c.grid(t)
		w, h := c.shape.Width, c.shape.Height
		for _, x := range append(odd(), w, w+1, w+c.w) {
			for _, y := range []int{-1, 0, h - 1, h, math.MaxInt, math.MinInt} {
				if k, e := g.At(x, y); e != api.ErrTileRect || k != 0 {
					t.Fatal(c, x, y, k, e)
				}
			}
		}
		for _, y := range append(odd(), h, h+1, h+c.h) {
			for _, x := range []int{-1, 0, w - 1, w, math.MaxInt, math.MinInt} {
				if k, e := g.At(x, y); e != api.ErrTileRect || k != 0 {
					t.Fatal(c, x, y, k, e)
				}
			}
		}
	}
}

func TestP8_1EachSampleIsInOneSlice(t *testing.T) {
	for _, c := range cuts() {
		g := c.grid(t)
		for p := range planes(c.shape) {
			w, h, _ := plane.Size(c.shape, p)
			met := make([]int, w*h)
			for k := range g.Count() {
				r, e := g.Part(k, p)
				if e != api.OK || r.W < 1 || r.H < 1 || r.X < 0 || r.Y < 0 || r.X+r.W > w || r.Y+r.H > h {
					t.Fatal(c, k, p, r, e)
				}
				for y := r.Y; y < r.Y+r.H; y++ {
					for x := r.X; x < r.X+r.W; x++ {
						met[y*w+x]++
						if at, _ := g.At(x, y); p == api.Luma && at != k {
							t.Fatal(c, k, x, y, at)
						}
					}
				}
			}
			for i, n := range met {
				if n != 1 {
					t.Fatal(c, p, i%w, i/w, n)
				}
			}
		}
	}
}

func TestP8_2SlicesAreWhole(t *testing.T) {
	for _, c := range cuts() {
		g := c.grid(t)
		for k := range g.Count() {
			r, _ := g.Rect(k)
			if r.X%2 != 0 || r.W%2 != 0 && r.X+r.W != c.shape.Width {
				t.Fatal(c, k, r)
			}
			for p := range planes(c.shape) {
				half, e := plane.Half(c.shape, p, r)
				if q, f := g.Part(k, p); e != api.OK || f != api.OK || q != half {
					t.Fatal(c, k, p, q, half, e, f)
				}
			}
		}
	}
}

func TestP8_2ChromaBelongsToItsLuma(t *testing.T) {
	in := func(r api.Rect, x, y int) bool {
		return x >= r.X && x < r.X+r.W && y >= r.Y && y < r.Y+r.H
	}
	for _, c := range cuts() {
		if c.shape.Width > 100 || c.shape.Height > 100 {
			continue
		}
		g := c.grid(t)
		for _, p := range []int{api.Blue, api.Red} {
			w, h, _ := plane.Size(c.shape, p)
			for k := range g.Count() {
				r, _ := g.Rect(k)
				q, _ := g.Part(k, p)
				for i := range w * h {
					if x, y := i%w, i/w; in(q, x, y) != in(r, 2*x, y) {
						t.Fatal(c, k, p, x, y)
					}
				}
			}
		}
	}
}
