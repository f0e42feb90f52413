package session_test

import (
	"reflect"
	"testing"

	"dailies/api"
	"dailies/medium"
	"dailies/session"
)

// roomy is a frame whose lists have spare room behind them that is written full.
func roomy(f api.Frame) api.Frame {
	planes := make([][]uint16, 0, len(f.Planes)+3)
	for _, p := range f.Planes {
		list := make([]uint16, len(p)+20)
		for i := range list {
			list[i] = 999
		}
		copy(list, p)
		planes = append(planes, list[:len(p)])
	}
	all := planes[:cap(planes)]
	for i := len(planes); i < len(all); i++ {
		all[i] = []uint16{1, 2, 3}
	}
	f.Planes = planes
	return f
}

// deep is all that a frame holds, its spare room too.
func deep(f api.Frame) [][]uint16 {
	var out [][]uint16
	for _, p := range f.Planes[:cap(f.Planes)] {
		out = append(out, append([]uint16(nil), p[:cap(p)]...))
	}
	return out
}

// P3: what an argument holds is as it was behind every call, its spare room too, whether it was taken or refused.
func TestP3NothingHandedInIsWrittenInto(t *testing.T) {
	list := []api.Rung{{0, 0, 0, 0}, {3, 3, 3, 0}, {8, 8, 8, 8}, {9, 9, 9, 9}}
	ladder := append([]api.Rung(nil), list...)
	c := by(1)
	c.Ladder = list[:2]
	frames := []api.Frame{roomy(row(small(), 1)[0]), roomy(flat(shapes()[2], 4))}
	for _, f := range noFrames() {
		frames = append(frames, roomy(f))
	}
	var was [][][]uint16
	for _, f := range frames {
		was = append(was, deep(f))
	}
	look := func() {
		t.Helper()
		if !reflect.DeepEqual(list, ladder) {
			t.Fatal("the ladder is another one")
		}
		for i, f := range frames {
			if !reflect.DeepEqual(deep(f), was[i]) {
				t.Fatal("a frame is another one:", i)
			}
		}
	}
	m := medium.New()
	r := recorder(t, m)
	for _, prepare := range []func(){
		func() {},
		func() { r.Set(c) },
		func() { r.Open(label()) },
		func() { c.Cap = 40; r.Set(c) },
		func() { c.Cap = 0; r.Set(c) },
		func() { m.Arm(1, 30) },
		func() { m.Revive(); r = recorder(t, m); r.Set(c); r.Continue() },
		func() { r.Finish() },
	} {
		prepare()
		look()
		for _, f := range frames {
			r.Write(f)
			look()
		}
	}
	tells(t, m, api.Rung{}, frames[0], frames[0], frames[0])
}

// P3: a frame that was handed in is not kept: written over by its owner, it leaves the reel, and the shape, as they are.
func TestP3NoFrameIsKept(t *testing.T) {
	frames := row(small(), 3)
	m, r := begun(t, plain())
	f := flat(small(), 0)
	for _, g := range frames {
		for p := range g.Planes {
			copy(f.Planes[p], g.Planes[p])
		}
		if _, e := r.Write(f); e != api.OK {
			t.Fatal(e)
		}
		for p := range f.Planes {
			clear(f.Planes[p])
		}
		f.Shape.Depth = 12
		refused(t, r, f, api.ErrSessionFrame)
		f.Shape.Depth = 10
	}
	tells(t, m, api.Rung{}, frames...)
}

// P3: what a player tells is the caller's: written full, with its spare room, it leaves the reel, the player and all other answers as they are.
func TestP3AnswersAreNewMemory(t *testing.T) {
	frames := row(shapes()[2], 2)
	m := recorded(t, plain(), true, frames...)
	was := m.Bytes()
	p := player(t, m)
	var lists [][]uint16
	var numbers [][]int
	var marks [][]api.Mark
	keep := func(planes [][]uint16, report api.Report) {
		for _, list := range planes {
			lists = append(lists, list[:cap(list)])
		}
		numbers = append(numbers, report.Slices[:cap(report.Slices)])
		marks = append(marks, report.Marks[:cap(report.Marks)])
	}
	for range 2 {
		must(t, p.Seek(0), api.OK)
		for i := range frames {
			blocks, report, e := p.Slice(0)
			must(t, e, api.OK)
			var planes [][]uint16
			for _, b := range blocks {
				planes = append(planes, b.Samples)
			}
			keep(planes, report)
			part, report, e := p.Region(api.Rect{X: 2, Y: 2, W: 16, H: 16})
			must(t, e, api.OK)
			keep(part.Planes, report)
			f, report, e := p.Next()
			must(t, e, api.OK)
			near(t, frames[i], f, api.Rung{})
			keep(f.Planes, report)
		}
	}
	for i, list := range lists {
		fill(list, uint16(i))
	}
	for i := range numbers {
		fill(numbers[i], i)
		fill(marks[i], api.Mark(i))
	}
	for i, list := range lists {
		full(t, list, uint16(i))
	}
	for i := range numbers {
		full(t, numbers[i], i)
		full(t, marks[i], api.Mark(i))
	}
	as(t, m, was)
	tells(t, m, api.Rung{}, frames...)
	must(t, p.Seek(0), api.OK)
	looks(t, m, p, api.MaxSamples)
}

// fill writes one thing all over a list.
func fill[T any](list []T, v T) {
	for i := range list {
		list[i] = v
	}
}

// full looks whether a list has one thing alone.
func full[T comparable](t *testing.T, list []T, v T) {
	t.Helper()
	for _, x := range list {
		if x != v {
			t.Fatal("answers share memory")
		}
	}
}

// P4, P17.4: recorders over unlike media, asked in turn, have nothing to do with one another.
func TestP17_4RecordersBesideOneAnother(t *testing.T) {
	c := chance(174)
	const many = 5
	var media [many]*medium.Medium
	var recorders [many]*session.Recorder
	var frames [many][]api.Frame
	configs := func(i int) api.Config { return by(i%3, api.Rung{i, i, i, 0}) }
	for i := range many {
		media[i] = medium.New()
		recorders[i] = recorder(t, media[i])
		must(t, recorders[i].Set(configs(i)), api.OK)
	}
	for i := range many {
		must(t, recorders[i].Open(api.Label{Title: string(rune('a' + i)), Rate: api.Rate(1 + i)}), api.OK)
	}
	for range 60 {
		i := c.below(many)
		f := noisy(&c, shapes()[i])
		writes(t, media[i], recorders[i], configs(i), f)
		frames[i] = append(frames[i], f)
	}
	// One dies, one is finished: the others go on.
	kill(t, media[0])
	refused(t, recorders[0], flat(shapes()[0], 1), api.ErrMediumDead)
	must(t, recorders[1].Finish(), api.OK)
	for i := 2; i < many; i++ {
		f := noisy(&c, shapes()[i])
		writes(t, media[i], recorders[i], configs(i), f)
		frames[i] = append(frames[i], f)
	}
	media[0].Revive()
	for i := range many {
		tells(t, media[i], api.Rung{i, i, i, 0}, frames[i]...)
		if l := player(t, media[i]).Label(); l.Title != string(rune('a'+i)) || l.Rate != api.Rate(1+i) {
			t.Fatal(l)
		}
	}
}
