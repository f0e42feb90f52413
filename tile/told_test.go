package tile_test

import (
	"math"
	"slices"
	"sync"
	"testing"

	"dailies/api"
	"dailies/tile"
)

// meets are the slices that have a sample with r, found slice by slice.
func meets(list []api.Rect, r api.Rect) []int {
	var told []int
	for k, s := range list {
		if s.X < r.X+r.W && r.X < s.X+s.W && s.Y < r.Y+r.H && r.Y < s.Y+s.H {
			told = append(told, k)
		}
	}
	return told
}

// byAt are the slices that At tells of the samples in r.
func byAt(g *tile.Grid, r api.Rect) []int {
	met := map[int]int{}
	for y := r.Y; y < r.Y+r.H; y++ {
		for x := r.X; x < r.X+r.W; x++ {
			k, _ := g.At(x, y)
			met[k]++
		}
	}
	var told []int
	for k := range met {
		told = append(told, k)
	}
	slices.Sort(told)
	return told
}

// rect is any one that lies in the frame.
func (c *chance) rect(s api.Shape) api.Rect {
	x, y := c.below(s.Width), c.below(s.Height)
	return api.Rect{X: x, Y: y, W: 1 + c.below(s.Width-x), H: 1 + c.below(s.Height-y)}
}

func TestS4Touched(t *testing.T) {
	c := chance(81)
	for _, cut := range cuts() {
		g := cut.grid(t)
		list := rects(cut.shape, cut.w, cut.h)
		for range 40 {
			r := c.rect(cut.shape)
			told, e := g.Touched(r)
			if e != api.OK || told == nil || !slices.Equal(slices.Collect(told), meets(list, r)) {
				t.Fatal(cut, r, e, meets(list, r))
			}
		}
	}
}

// Every rectangle that there is, by a grid with slices of all four kinds: whole ones, cut at the right, below, and both.
func TestS4TouchedOfEveryRectangle(t *testing.T) {
	cut := cut{api.Shape{Width: 35, Height: 34, Depth: 10}, 16, 16}
	g := cut.grid(t)
	list := rects(cut.shape, cut.w, cut.h)
	for x := range cut.shape.Width {
		for w := 1; x+w <= cut.shape.Width; w++ {
			for y := 0; y < cut.shape.Height; y++ {
				for h := 1; y+h <= cut.shape.Height; h++ {
					r := api.Rect{X: x, Y: y, W: w, H: h}
					told, e := g.Touched(r)
					if e != api.OK || !slices.Equal(slices.Collect(told), meets(list, r)) {
						t.Fatal(r, e, meets(list, r))
					}
				}
			}
		}
	}
}

func TestS4TouchedBeyondTheFrame(t *testing.T) {
	for _, cut := range cuts() {
		g := cut.grid(t)
		w, h := cut.shape.Width, cut.shape.Height
		list := []api.Rect{
			{}, {W: 1}, {H: 1}, {W: 0, H: h}, {W: w, H: 0}, {W: -1, H: 1}, {W: 1, H: -1},
			{X: -1, W: 1, H: 1}, {Y: -1, W: 1, H: 1}, {X: -1, W: 2, H: 1}, {Y: -1, W: 1, H: 2}, {X: -2, W: w, H: h},
			{W: w + 1, H: 1}, {W: 1, H: h + 1}, {X: w, W: 1, H: 1}, {Y: h, W: 1, H: 1}, {X: w - 1, W: 2, H: 1}, {Y: h - 1, W: 1, H: 2},
			{X: w, W: 0, H: 1}, {Y: h, W: 1, H: 0}, {X: w + 1, W: -1, H: 1}, {Y: h + 1, W: 1, H: -1},
			{X: 1, W: w, H: h}, {Y: 1, W: w, H: h}, {W: w + 1, H: h + 1}, {X: w + 16, Y: h + 16, W: 1, H: 1},
			{X: math.MaxInt, W: math.MaxInt, H: 1}, {Y: math.MaxInt, H: math.MaxInt, W: 1}, {X: math.MaxInt, Y: math.MaxInt, W: math.MaxInt, H: math.MaxInt},
			{X: math.MinInt, Y: math.MinInt, W: math.MinInt, H: math.MinInt}, {X: math.MinInt, W: math.MaxInt, H: 1}, {X: math.MaxInt, W: math.MinInt, H: 1},
			{Y: math.MinInt, W: 1, H: math.MaxInt}, {Y: math.MaxInt, W: 1, H: math.MinInt},
		}
		for _, n := range odd() {
			list = append(list, api.Rect{X: n, W: 1, H: 1}, api.Rect{Y: n, W: 1, H: 1}, api.Rect{W: n, H: 1}, api.Rect{W: 1, H: n},
				api.Rect{X: n, Y: n, W: w, H: h}, api.Rect{W: n, H: n}, api.Rect{X: w - 1, Y: h - 1, W: n, H: 1}, api.Rect{X: w - 1, Y: h - 1, W: 1, H: n},
				api.Rect{X: n, W: -n, H: 1}, api.Rect{Y: n, W: 1, H: -n})
		}
		for _, r := range list {
			told, e := g.Touched(r)
			if e != api.ErrTileRect || told == nil || len(slices.Collect(told)) != 0 {
				t.Fatal(cut, r, e)
			}
			for k := range told { // also when it is ranged over again
				t.Fatal(cut, r, k)
			}
		}
	}
}

func TestP8_3TouchedIsWhatAtTells(t *testing.T) {
	c := chance(83)
	for _, cut := range cuts() {
		g := cut.grid(t)
		for range 5 {
			r := c.rect(cut.shape)
			told, _ := g.Touched(r)
			if !slices.Equal(slices.Collect(told), byAt(g, r)) {
				t.Fatal(cut, r, byAt(g, r))
			}
		}
		for range 5 { // one sample is in one slice
			x, y := c.below(cut.shape.Width), c.below(cut.shape.Height)
			told, _ := g.Touched(api.Rect{X: x, Y: y, W: 1, H: 1})
			k, _ := g.At(x, y)
			if !slices.Equal(slices.Collect(told), []int{k}) {
				t.Fatal(cut, x, y, k)
			}
		}
		whole, e := g.Touched(api.Rect{W: cut.shape.Width, H: cut.shape.Height})
		n := 0
		for k := range whole {
			if k != n {
				t.Fatal(cut, k, n)
			}
			n++
		}
		if e != api.OK || n != g.Count() {
			t.Fatal(cut, n, e)
		}
		for k, r := range g.All() { // a slice's own rectangle touches that slice alone
			if own, e := g.Touched(r); e != api.OK || !slices.Equal(slices.Collect(own), []int{k}) {
				t.Fatal(cut, k, r, e)
			}
		}
	}
}

func TestS5All(t *testing.T) {
	for _, cut := range cuts() {
		g := cut.grid(t)
		want := rects(cut.shape, cut.w, cut.h)
		all := g.All()
		for range 2 {
			n := 0
			for k, r := range all {
				if k != n || r != want[n] {
					t.Fatal(cut, n, k, r)
				}
				n++
			}
			if n != len(want) {
				t.Fatal(cut, n, len(want))
			}
		}
	}
}

func TestTouchedAndAllAreLeftEarly(t *testing.T) {
	g := cut{api.Shape{Width: 50, Height: 40, Depth: 10}, 16, 16}.grid(t)
	r := api.Rect{X: 15, Y: 10, W: 20, H: 30}
	told, _ := g.Touched(r)
	want := slices.Collect(told)
	all := g.All()
	for stop := range len(want) + 1 {
		var met []int
		for k := range told {
			if len(met) == stop {
				break
			}
			met = append(met, k)
		}
		if !slices.Equal(met, want[:min(stop, len(want))]) {
			t.Fatal(stop, met)
		}
	}
	for stop := range g.Count() + 1 {
		n := 0
		for k := range all {
			if n == stop {
				break
			}
			if k != n {
				t.Fatal(stop, n, k)
			}
			n++
		}
		if n != stop {
			t.Fatal(stop, n)
		}
	}
	if again := slices.Collect(told); !slices.Equal(again, want) {
		t.Fatal(again, want)
	}
}

func TestTouchedAndAllWithinTheirOwnLoops(t *testing.T) {
	g := cut{api.Shape{Width: 50, Height: 20, Depth: 10}, 16, 16}.grid(t)
	told, _ := g.Touched(api.Rect{X: 15, W: 2, H: 17})
	want := []int{0, 1, 4, 5}
	var outer, inner []int
	for k := range told {
		outer = append(outer, k)
		for q := range told {
			inner = append(inner, q)
			if q == k { // the inner loop leaves early, the outer one goes on
				break
			}
		}
	}
	if !slices.Equal(outer, want) || !slices.Equal(inner, []int{0, 0, 1, 0, 1, 4, 0, 1, 4, 5}) {
		t.Error(outer, inner)
	}
	all, n, m := g.All(), 0, 0
	for k, r := range all {
		if k != n {
			t.Fatal(k, n)
		}
		n++
		for q, s := range all {
			if q != m%8 || (r == s) != (q == k) {
				t.Fatal(k, q, r, s)
			}
			m++
		}
		for range told { // left at once, each time
			for range all {
				break
			}
		}
	}
	if n != 8 || m != 64 {
		t.Error(n, m)
	}
}

func TestExamples(t *testing.T) {
	s := api.Shape{Width: 50, Height: 20, Depth: 10}
	g := cut{s, 16, 16}.grid(t)
	if n := g.Count(); n != 8 {
		t.Error(n)
	}
	for k, want := range map[int]api.Rect{3: {X: 48, W: 2, H: 16}, 7: {X: 48, Y: 16, W: 2, H: 4}} {
		if r, e := g.Rect(k); r != want || e != api.OK {
			t.Error(k, r, e)
		}
	}
	if r, e := g.Rect(8); r != (api.Rect{}) || e != api.ErrTileSlice {
		t.Error(r, e)
	}
	for k, want := range map[int]api.Rect{3: {X: 24, W: 1, H: 16}, 5: {X: 8, Y: 16, W: 8, H: 4}} {
		if r, e := g.Part(k, api.Blue); r != want || e != api.OK {
			t.Error(k, r, e)
		}
	}
	if r, e := g.Part(5, api.Alpha); r != (api.Rect{}) || e != api.ErrTileSlice {
		t.Error(r, e)
	}
	if k, e := g.At(49, 19); k != 7 || e != api.OK {
		t.Error(k, e)
	}
	if k, e := g.At(50, 0); k != 0 || e != api.ErrTileRect {
		t.Error(k, e)
	}
	if told, e := g.Touched(api.Rect{X: 15, W: 2, H: 17}); e != api.OK || !slices.Equal(slices.Collect(told), []int{0, 1, 4, 5}) {
		t.Error(e)
	}
	for _, r := range []api.Rect{{H: 1}, {X: 49, W: 2, H: 1}} {
		if told, e := g.Touched(r); e != api.ErrTileRect || told == nil || len(slices.Collect(told)) != 0 {
			t.Error(r, e)
		}
	}
	s.Width = 51
	g = cut{s, 16, 16}.grid(t)
	if r, e := g.Rect(3); r != (api.Rect{X: 48, W: 3, H: 16}) || e != api.OK {
		t.Error(r, e)
	}
	if r, e := g.Part(3, api.Red); r != (api.Rect{X: 24, W: 2, H: 16}) || e != api.OK {
		t.Error(r, e)
	}
	for _, sides := range [][2]int{{15, 16}, {16, 15}, {4098, 16}} {
		if g, e := tile.New(s, sides[0], sides[1]); g != nil || e != api.ErrTileSides {
			t.Error(sides, g, e)
		}
	}
}

// A grid never changes: many hands ask one at the same time, and others make grids of their own.
func TestP4GridsStayAsTheyAre(t *testing.T) {
	first := cut{api.Shape{Width: 51, Height: 40, Depth: 10, Alpha: true}, 16, 16}
	g := first.grid(t)
	want := rects(first.shape, 16, 16)
	told, _ := g.Touched(api.Rect{X: 15, Y: 15, W: 2, H: 18})
	all := g.All()
	wrong := make([]int, 8)
	var hands sync.WaitGroup
	for hand := range wrong {
		hands.Go(func() {
			for round := range 50 {
				other, e := tile.New(api.Shape{Width: 20 + round, Height: 20 + hand, Depth: 12}, 18+2*hand, 16+round)
				if e != api.OK || other.Count() < 1 {
					wrong[hand]++
				}
				if !slices.Equal(slices.Collect(told), []int{0, 1, 4, 5, 8, 9}) {
					wrong[hand]++
				}
				n := 0
				for k, r := range all {
					q, _ := g.Part(k, api.Alpha)
					at, _ := g.At(r.X+r.W-1, r.Y+r.H-1)
					if k != n || r != want[k] || q != r || at != k {
						wrong[hand]++
					}
					n++
				}
				if n != len(want) || g.Count() != n {
					wrong[hand]++
				}
			}
		})
	}
	hands.Wait()
	for hand, n := range wrong {
		if n != 0 {
			t.Error(hand, n)
		}
	}
}
