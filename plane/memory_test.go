package plane_test

import (
	"slices"
	"sync"
	"testing"

	"dailies/api"
	"dailies/plane"
)

// spare has the same samples, with room behind them that is written full.
func spare(samples []uint16) []uint16 {
	room := append(slices.Clone(samples), 7, 7, 7, 7, 7, 7, 7, 7)
	return room[:len(samples)]
}

// roomy is the same frame, with spare room behind its planes and behind their list.
func roomy(f api.Frame) api.Frame {
	list := make([][]uint16, 0, len(f.Planes)+2)
	for _, samples := range f.Planes {
		list = append(list, spare(samples))
	}
	list = append(list, []uint16{9}, []uint16{9})
	return api.Frame{Shape: f.Shape, Planes: list[:len(f.Planes)]}
}

// deep is a frame with all that stands behind its lists.
func deep(f api.Frame) api.Frame {
	g := api.Frame{Shape: f.Shape}
	for _, samples := range f.Planes[:cap(f.Planes)] {
		g.Planes = append(g.Planes, slices.Clone(samples[:cap(samples)]))
	}
	return g
}

// scribble writes over a list and over its spare room.
func scribble(samples []uint16) {
	samples = samples[:cap(samples)]
	for i := range samples {
		samples[i] ^= 0xffff
	}
}

// answers are the frames that all calls which tell frames make of f, and a block as a frame of one plane.
func answers(t *testing.T, f api.Frame, b api.Block) []api.Frame {
	t.Helper()
	made, e1 := plane.New(f.Shape)
	pasted, e2 := plane.Paste(f, api.Blue, 1, 1, b)
	cut, e3 := plane.Cut(f, api.Rect{X: 2, Y: 1, W: 4, H: 2})
	all, e4 := plane.Cut(f, api.Rect{W: f.Shape.Width, H: f.Shape.Height})
	part, e5 := plane.Crop(f, api.Luma, api.Rect{X: 1, Y: 1, W: 3, H: 2})
	whole, e6 := plane.Crop(f, api.Luma, api.Rect{W: f.Shape.Width, H: f.Shape.Height})
	for k, e := range []api.Errno{e1, e2, e3, e4, e5, e6} {
		if e != api.OK { // no Fatal: goroutines ask, too
			t.Error("answer", k, e)
		}
	}
	return []api.Frame{made, pasted, cut, all, {Planes: [][]uint16{part.Samples}}, {Planes: [][]uint16{whole.Samples}}}
}

func TestP3NothingHandedInIsWrittenInto(t *testing.T) {
	c := chance(41)
	for range 20 {
		s := c.shape(20)
		s.Width, s.Height = s.Width+6, s.Height+3
		f, g := roomy(c.frame(s)), roomy(c.frame(s))
		b := api.Block{W: 2, H: 2, Samples: spare(c.samples(4, s.Depth))}
		was, other, block := deep(f), deep(g), slices.Clone(b.Samples[:cap(b.Samples)])
		answers(t, f, b)
		plane.Valid(f)
		plane.Same(f, g)
		plane.Apart(f, g)
		for p := range f.Planes {
			plane.Error(f, g, p)
		}
		plane.Crop(f, 9, api.Rect{})
		plane.Paste(f, 0, 0, 0, api.Block{W: 1, H: 1, Samples: b.Samples})
		plane.Cut(f, api.Rect{})
		if !sameFrame(deep(f), was) || !sameFrame(deep(g), other) || !slices.Equal(b.Samples[:cap(b.Samples)], block) {
			t.Fatal("what was handed in is other than it was", s)
		}
	}
}

// Each list of each answer is written over, its spare room too: nothing else may change by that.
func TestP3AnswersShareNoMemory(t *testing.T) {
	c := chance(42)
	for _, alpha := range []bool{false, true} {
		s := api.Shape{Width: 9, Height: 5, Depth: 12, Alpha: alpha}
		f := roomy(c.frame(s))
		b := api.Block{W: 2, H: 2, Samples: spare(c.samples(4, s.Depth))}
		was, block := deep(f), slices.Clone(b.Samples[:cap(b.Samples)])
		all := answers(t, f, b)
		all = append(all, answers(t, f, b)...)
		for k, one := range all {
			for p := range one.Planes {
				before := make([]api.Frame, len(all))
				for j := range all {
					before[j] = copied(all[j])
				}
				scribble(one.Planes[p])
				before[k].Planes[p] = slices.Clone(one.Planes[p])
				for j := range all {
					if !sameFrame(all[j], before[j]) {
						t.Fatal("the answers", k, "and", j, "share memory")
					}
				}
			}
			list := one.Planes[:cap(one.Planes)]
			for p := range list {
				list[p] = nil
			}
			all[k].Planes = nil
		}
		if !sameFrame(deep(f), was) || !slices.Equal(b.Samples[:cap(b.Samples)], block) {
			t.Fatal("an answer shares memory with what was handed in")
		}
	}
}

// What is handed in is not kept: written over afterwards, it changes no answer.
func TestP3NothingHandedInIsKept(t *testing.T) {
	c := chance(43)
	f := c.frame(api.Shape{Width: 9, Height: 5, Depth: 10, Alpha: true})
	b := api.Block{W: 2, H: 2, Samples: c.samples(4, 10)}
	all := answers(t, f, b)
	var was []api.Frame
	for _, one := range all {
		was = append(was, copied(one))
	}
	for _, samples := range f.Planes {
		scribble(samples)
	}
	clear(f.Planes)
	scribble(b.Samples)
	for k := range all {
		if !sameFrame(all[k], was[k]) {
			t.Fatal("answer", k, "hangs on what was handed in")
		}
	}
}

// What stands in spare room is not looked at, nor does it make a list longer.
func TestP4SpareRoomHasNoPart(t *testing.T) {
	c := chance(44)
	for range 20 {
		f := c.frame(api.Shape{Width: 7 + c.below(9), Height: 3 + c.below(9), Depth: 10, Alpha: c.below(2) == 0})
		g := roomy(f)
		for p := range g.Planes {
			room := g.Planes[p][:cap(g.Planes[p])]
			room[len(g.Planes[p])] = 65535
		}
		b := api.Block{W: 2, H: 2, Samples: c.samples(4, 10)}
		if !plane.Same(f, g) || plane.Valid(g) != api.OK {
			t.Fatal(f.Shape, plane.Valid(g))
		}
		one, two := answers(t, f, b), answers(t, g, api.Block{W: 2, H: 2, Samples: spare(b.Samples)})
		for k := range one {
			if !sameFrame(one[k], two[k]) {
				t.Fatal(f.Shape, k)
			}
		}
	}
}

func TestP4CallsBesideOneAnother(t *testing.T) {
	c := chance(45)
	f := c.frame(api.Shape{Width: 33, Height: 17, Depth: 12, Alpha: true})
	g := c.near(f, 5)
	b := api.Block{W: 2, H: 2, Samples: c.samples(4, 12)}
	want := answers(t, f, b)
	far, _ := plane.Apart(f, g)
	x, _ := plane.Error(f, g, api.Red)
	var all sync.WaitGroup
	for range 8 {
		all.Go(func() {
			for range 20 {
				for k, one := range answers(t, f, b) {
					if !sameFrame(one, want[k]) {
						t.Error("answer", k, "is another one")
					}
				}
				if again, _ := plane.Apart(f, g); again != far {
					t.Error(again, far)
				}
				if again, _ := plane.Error(f, g, api.Red); again != x {
					t.Error(again, x)
				}
			}
		})
	}
	all.Wait()
}
