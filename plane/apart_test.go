package plane_test

import (
	"fmt"
	"math/big"
	"slices"
	"testing"

	"dailies/api"
	"dailies/plane"
)

// gap is how far two samples are apart.
func gap(a, b uint16) int64 {
	if a < b {
		return int64(b) - int64(a)
	}
	return int64(a) - int64(b)
}

// furthest is what Apart must tell.
func furthest(a, b api.Frame) api.Rung {
	var far api.Rung
	for p := range a.Planes {
		for i := range a.Planes[p] {
			far[p] = max(far[p], int(gap(a.Planes[p][i], b.Planes[p][i])))
		}
	}
	return far
}

// mean is what Error must tell: the float nearest to the fraction.
func mean(a, b []uint16) float64 {
	sum := new(big.Int)
	for i := range a {
		d := big.NewInt(gap(a[i], b[i]))
		sum.Add(sum, d.Mul(d, d))
	}
	x, _ := new(big.Rat).SetFrac(sum, big.NewInt(int64(len(a)))).Float64()
	return x
}

// near is a frame no sample of which is further than d from f's.
func (c *chance) near(f api.Frame, d int) api.Frame {
	g := copied(f)
	for _, samples := range g.Planes {
		for i, sample := range samples {
			samples[i] = uint16(min(max(int(sample)+c.below(2*d+1)-d, 0), 1<<f.Shape.Depth-1))
		}
	}
	return g
}

// copied is a frame of memory of its own.
func copied(f api.Frame) api.Frame {
	g := api.Frame{Shape: f.Shape, Planes: make([][]uint16, len(f.Planes))}
	for p, samples := range f.Planes {
		g.Planes[p] = slices.Clone(samples)
	}
	return g
}

func TestApartAndError(t *testing.T) {
	c := chance(31)
	for round := range 300 {
		f := c.frame(c.shape(30))
		g := c.near(f, round%70)
		if round%3 == 0 {
			g = c.frame(f.Shape)
		}
		if far, e := plane.Apart(f, g); e != api.OK || far != furthest(f, g) {
			t.Fatal(f.Shape, far, e, furthest(f, g))
		}
		for p := range f.Planes {
			if x, e := plane.Error(f, g, p); e != api.OK || x != mean(f.Planes[p], g.Planes[p]) {
				t.Fatal(f.Shape, p, x, e, mean(f.Planes[p], g.Planes[p]))
			}
		}
	}
}

// In each plane, at each place, one sample alone is another one.
func TestApartAndErrorOfOneSample(t *testing.T) {
	c := chance(32)
	for _, s := range small() {
		f := c.frame(s)
		for p := range f.Planes {
			for i := range f.Planes[p] {
				f.Planes[p][i] = 0
				g := copied(f)
				for _, d := range []int{1, 2, 1<<s.Depth - 1} {
					g.Planes[p][i] = uint16(d)
					want := api.Rung{}
					want[p] = d
					if far, e := plane.Apart(f, g); e != api.OK || far != want {
						t.Fatal(s, p, i, far, e)
					}
					for q := range f.Planes {
						square := float64(0)
						if p == q {
							square = float64(d * d)
						}
						if x, e := plane.Error(f, g, q); e != api.OK || x != square/float64(len(f.Planes[q])) {
							t.Fatal(s, p, i, q, x, e)
						}
					}
				}
			}
		}
	}
}

func TestApartAndErrorOfTheGreatest(t *testing.T) {
	for _, s := range []api.Shape{{Width: 4096, Height: 512, Depth: 12}, {Width: 1365, Height: 1024, Depth: 12, Alpha: true}, {Width: 4095, Height: 512, Depth: 10}} {
		most := 1<<s.Depth - 1
		f, _ := plane.New(s)
		g := copied(f)
		want := api.Rung{}
		for p, samples := range g.Planes {
			want[p] = most
			for i := range samples {
				samples[i] = uint16(most)
			}
		}
		if far, e := plane.Apart(f, g); e != api.OK || far != want {
			t.Error(s, far, e)
		}
		for p := range g.Planes {
			if x, e := plane.Error(f, g, p); e != api.OK || x != float64(most*most) {
				t.Error(s, p, x, e)
			}
			g.Planes[p][0]-- // the sum has so many bits that a lesser float would lose this
			if x, e := plane.Error(f, g, p); e != api.OK || x != mean(f.Planes[p], g.Planes[p]) || x >= float64(most*most) {
				t.Error(s, p, x, e)
			}
		}
	}
}

func TestApartAndErrorOfUnlikeShapes(t *testing.T) {
	c := chance(33)
	s := api.Shape{Width: 6, Height: 4, Depth: 10}
	f := c.frame(s)
	for _, other := range []api.Shape{
		{Width: 5, Height: 4, Depth: 10},
		{Width: 4, Height: 6, Depth: 10}, // as many samples in each plane
		{Width: 6, Height: 5, Depth: 10},
		{Width: 6, Height: 4, Depth: 12},
		{Width: 6, Height: 4, Depth: 10, Alpha: true},
	} {
		g := c.frame(api.Shape{Width: other.Width, Height: other.Height, Depth: 10, Alpha: other.Alpha})
		g.Shape = other
		for _, pair := range [][2]api.Frame{{f, g}, {g, f}} {
			if far, e := plane.Apart(pair[0], pair[1]); e != api.ErrPlaneShape || far != (api.Rung{}) {
				t.Error(other, far, e)
			}
			for _, p := range []int{api.Luma, api.Alpha, 9} { // the shapes come ahead of the plane's number
				if x, e := plane.Error(pair[0], pair[1], p); e != api.ErrPlaneShape || x != 0 {
					t.Error(other, p, x, e)
				}
			}
		}
	}
}

func TestErrorOfPlanesThatAreNotThere(t *testing.T) {
	c := chance(34)
	for _, s := range small() {
		f, g := c.frame(s), c.frame(s)
		for _, p := range append(odd(), count(s), 4) {
			if x, e := plane.Error(f, g, p); e != api.ErrPlaneRect || x != 0 {
				t.Fatal(s, p, x, e)
			}
		}
	}
}

func TestP6_4ApartAndErrorOfBothWays(t *testing.T) {
	c := chance(35)
	for round := range 300 {
		f := c.frame(c.shape(20))
		g := c.near(f, round%3)
		if far, e := plane.Apart(f, f); e != api.OK || far != (api.Rung{}) {
			t.Fatal("a frame and itself", far, e)
		}
		far, e := plane.Apart(f, g)
		back, e2 := plane.Apart(g, f)
		if e != api.OK || e2 != api.OK || far != back {
			t.Fatal("Apart both ways", far, back)
		}
		for p := range f.Planes {
			x, e := plane.Error(f, g, p)
			y, e2 := plane.Error(g, f, p)
			if e != api.OK || e2 != api.OK || x != y {
				t.Fatal("Error both ways", p, x, y)
			}
			if (x == 0) != (far[p] == 0) || x > float64(far[p]*far[p]) || x < 0 {
				t.Fatal("Error and Apart", p, x, far[p])
			}
		}
	}
}

func TestSame(t *testing.T) {
	c := chance(36)
	for _, s := range small() {
		f := c.frame(s)
		wantSame(t, fmt.Sprint(s), f, copied(f), true)
		wantSame(t, "itself", f, f, true)
		for p := range f.Planes {
			for i := range f.Planes[p] {
				g := copied(f)
				g.Planes[p][i] ^= 1
				wantSame(t, fmt.Sprint("one sample ", s, p, i), f, g, false)
			}
			g := copied(f)
			g.Planes[p] = append(g.Planes[p], 0)
			wantSame(t, "one more sample", f, g, false)
			g.Planes[p] = g.Planes[p][:len(g.Planes[p])-2]
			wantSame(t, "one fewer", f, g, false)
		}
		g := copied(f)
		g.Planes = append(g.Planes, nil)
		wantSame(t, "one more plane", f, g, false)
		g.Planes = g.Planes[:len(g.Planes)-2]
		wantSame(t, "one fewer", f, g, false)
		for _, other := range []api.Shape{{Width: s.Width + 1, Height: s.Height, Depth: s.Depth, Alpha: s.Alpha}, {Width: s.Width, Height: s.Height + 1, Depth: s.Depth, Alpha: s.Alpha}, {Width: s.Width, Height: s.Height, Depth: s.Depth + 1, Alpha: s.Alpha}, {Width: s.Width, Height: s.Height, Depth: s.Depth, Alpha: !s.Alpha}} {
			wantSame(t, "another shape", f, api.Frame{Shape: other, Planes: f.Planes}, false)
		}
	}
}

// Same is asked of any two frames, whether they may be or not.
func TestSameOfFramesThatMayNotBe(t *testing.T) {
	wrong := api.Shape{Width: -1, Height: 1 << 40, Depth: 99}
	wantSame(t, "nothing", api.Frame{}, api.Frame{}, true)
	wantSame(t, "no planes", api.Frame{}, api.Frame{Planes: [][]uint16{}}, true)
	wantSame(t, "no samples", api.Frame{Planes: [][]uint16{nil, {}}}, api.Frame{Planes: [][]uint16{{}, nil}}, true)
	wantSame(t, "no planes, and one without samples", api.Frame{}, api.Frame{Planes: [][]uint16{nil}}, false)
	wantSame(t, "wrong shapes", api.Frame{Shape: wrong}, api.Frame{Shape: wrong}, true)
	wantSame(t, "a wrong shape", api.Frame{Shape: wrong}, api.Frame{}, false)
	a := api.Frame{Shape: wrong, Planes: [][]uint16{{65535}, {1, 2}, nil, {4}, {5}}}
	wantSame(t, "many planes", a, copied(a), true)
	b := copied(a)
	b.Planes[4][0] = 6
	wantSame(t, "the last plane", a, b, false)
	b.Planes[4] = nil
	wantSame(t, "the last plane without samples", a, b, false)
}

// wantSame holds Same against what it must be, both ways.
func wantSame(t *testing.T, what string, a, b api.Frame, want bool) {
	t.Helper()
	if plane.Same(a, b) != want || plane.Same(b, a) != want {
		t.Fatal(what, "must be", want)
	}
}

func TestExamplesOfApart(t *testing.T) {
	s := api.Shape{Width: 5, Height: 2, Depth: 10}
	c := chance(37)
	f := c.frame(s)
	g := copied(f)
	f.Planes[0][4], g.Planes[0][4] = 500, 503
	if far, e := plane.Apart(f, g); e != api.OK || far != (api.Rung{3, 0, 0, 0}) {
		t.Error(far, e)
	}
	if x, e := plane.Error(f, g, api.Luma); e != api.OK || x != 0.9 {
		t.Error(x, e)
	}
	if x, e := plane.Error(f, g, api.Blue); e != api.OK || x != 0 {
		t.Error(x, e)
	}
}
