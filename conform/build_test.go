package conform_test

import (
	"math"
	"slices"
	"testing"

	"dailies/api"
	"dailies/conform"
	"dailies/medium"
	"dailies/picture"
	"dailies/plane"
	"dailies/reel"
	"dailies/view"
)

// theCut is a list of the stock: two frames of a are copied, two mixed with b, one of b copied, three mixed with c, one of c copied, and two of b.
func theCut() api.CutList {
	return listOf(cut("a", 102, 106), fade(2, "b", 1, 7), fade(3, "c", 8, 12), cut("b", 0, 2))
}

// K3: without an event there is a reel without a record, by any limit and configuration, of any reels.
func TestK3NoEvent(t *testing.T) {
	for rate := api.Rate24; rate <= api.Rate60Drop; rate++ {
		l := api.CutList{Title: "nothing", Rate: rate}
		for _, limit := range []int{0, 1, math.MaxInt} {
			for _, c := range []api.Config{{}, plain()} {
				y := builds(t, l, store{}, c, limit)
				if y.fault != api.OK || y.built != (api.Built{}) {
					t.Fatal(y)
				}
				r := open(t, load(t, y.bytes))
				if r.Count() != 0 || !r.Finished() || r.Label() != (api.Label{Title: "nothing", Rate: rate}) {
					t.Fatal(r.Label(), r.Count())
				}
			}
		}
	}
}

// K3, P20.2, T11: copied and mixed frames, counted; the reel is finished, and has the list's title and rate, and Start 0.
func TestK3CopiedAndMixed(t *testing.T) {
	for _, s := range shapes() {
		x := stock(t, s, plain())
		y := builds(t, theCut(), x, plain(), samples(s))
		if y.fault != api.OK || y.built != (api.Built{Frames: 11, Copied: 6, Mixed: 5}) {
			t.Fatal(y.built, y.fault)
		}
		r := open(t, load(t, y.bytes))
		if r.Count() != 11 || !r.Finished() || r.Label() != (api.Label{Title: "The Cut", Rate: api.Rate25}) {
			t.Fatal(r.Label(), r.Count())
		}
	}
}

// K3: nothing but copies asks for no configuration, and for no limit.
func TestK3CopiesAskForNoConfiguration(t *testing.T) {
	x := stock(t, small(), plain())
	for _, c := range []api.Config{{}, by(99), by(0)} {
		for _, limit := range []int{0, 1, api.MaxSamples + 1, math.MaxInt} {
			y := builds(t, listOf(cut("a", 100, 110), cut("b", 0, 8), cut("c", 7, 13)), x, c, limit)
			if y.fault != api.OK || y.built != (api.Built{Frames: 24, Copied: 24}) {
				t.Fatal(y.built, y.fault)
			}
		}
	}
}

// K3: records of all shapes and configurations on one reel are copied, whatever stands beside them.
func TestK3CopiesOfUnlikeShapes(t *testing.T) {
	var records [][]byte
	c := chance(3)
	for i, s := range shapes() {
		records = append(records, coded(t, noisy(&c, s), by(i%3, api.Rung{i, 2 * i, 3 * i, 0})))
	}
	x := storeOf(t, map[string]*medium.Medium{"x": laid(t, api.Label{Rate: api.Rate25}, false, records...)})
	n := len(records)
	y := builds(t, listOf(cut("x", 0, n), cut("x", 2, 3), cut("x", 0, n)), x, api.Config{}, 0)
	if y.fault != api.OK || y.built != (api.Built{Frames: 2*n + 1, Copied: 2*n + 1}) {
		t.Fatal(y.built, y.fault)
	}
	r := open(t, load(t, y.bytes))
	for i := range n {
		src, e := r.Record(i)
		must(t, e, api.OK)
		b, e := src.Read(0, src.Size())
		if e != api.OK || !slices.Equal(b, records[i]) {
			t.Fatal("another record:", i, e)
		}
	}
}

// K3: fades of 1, of 100, as long as the event, and as what is left of the one ahead.
func TestK3Fades(t *testing.T) {
	c := chance(33)
	var one, two [][]byte
	for range 105 {
		one = append(one, coded(t, noisy(&c, tiny()), plain()))
		two = append(two, coded(t, noisy(&c, tiny()), plain()))
	}
	x := storeOf(t, map[string]*medium.Medium{"x": laid(t, api.Label{Rate: api.Rate25, Start: 9}, true, one...), "y": laid(t, api.Label{Rate: api.Rate25}, true, two...)})
	for _, n := range []int{0, 1, 2, 99, 100} {
		for _, more := range []int{0, 1, 5} {
			for _, less := range []int{0, 1, 5} {
				if n+more == 0 || n+less == 0 {
					continue
				}
				y := builds(t, listOf(cut("x", 9, 9+n+more), fade(n, "y", 0, n+less), cut("x", 9, 10)), x, plain(), samples(tiny()))
				if y.fault != api.OK || y.built != (api.Built{Frames: n + more + less + 1, Copied: more + less + 1, Mixed: n}) {
					t.Fatal(n, more, less, y.built, y.fault)
				}
			}
		}
	}
}

// K3: the same reel on both sides of a fade, by every distance of the two sides, and fades that follow one another.
func TestK3TheSameReelOnBothSides(t *testing.T) {
	x := stock(t, small(), plain())
	for in := 100; in <= 106; in++ {
		for out := 104; out <= 110; out++ {
			for n := 1; n <= 4; n++ {
				l := listOf(cut("a", 100, out), fade(n, "a", in, in+4))
				if y := builds(t, l, x, plain(), samples(small())); y.fault != api.OK || y.built.Mixed != n {
					t.Fatal(y.built, y.fault)
				}
			}
		}
	}
	// A frame that is mixed with itself is that frame.
	y := builds(t, listOf(cut("a", 100, 104), fade(4, "a", 100, 104)), x, plain(), samples(small()))
	as(t, load(t, y.bytes), laid(t, api.Label{Title: "The Cut", Rate: api.Rate25}, true, recordsOf(t, x, "a")[:4]...).Bytes())
	l := listOf(cut("a", 100, 106), fade(3, "a", 102, 108), fade(3, "a", 101, 107), fade(3, "b", 0, 6), fade(2, "a", 100, 110), fade(4, "a", 106, 110))
	if y := builds(t, l, x, plain(), samples(small())); y.fault != api.OK || y.built.Mixed != 15 {
		t.Fatal(y.built, y.fault)
	}
}

// recordsOf are the bytes of all records of a reel.
func recordsOf(t *testing.T, x store, name string) [][]byte {
	t.Helper()
	var list [][]byte
	for _, src := range x.reels[name].All() {
		b, e := src.Read(0, src.Size())
		must(t, e, api.OK)
		list = append(list, b)
	}
	return list
}

// K3: out that is nil, and a limit below 0, are refused of no event, ahead of all that is wrong with the list.
func TestK3NoMediumAndNoLimit(t *testing.T) {
	x := stock(t, small(), plain())
	lists := append(noLists(), theCut(), listOf(), listOf(cut("nobody", 0, 1)))
	for _, l := range lists {
		for _, limit := range []int{0, 1, math.MaxInt, -1, math.MinInt} {
			built, err := conform.Build(l, x.reels, plain(), limit, nil)
			says(t, err, -1, api.ErrArg)
			if built != (api.Built{}) {
				t.Fatal(built)
			}
		}
		for _, limit := range odd() {
			for _, out := range []*medium.Medium{medium.New(), load(t, []byte("x")), kill(t, medium.New()), x.media["a"]} {
				was := out.Bytes()
				built, err := conform.Build(l, x.reels, plain(), limit, out)
				says(t, err, -1, api.ErrArg)
				if built != (api.Built{}) {
					t.Fatal(built)
				}
				as(t, out, was)
			}
		}
	}
}

// K3: the error of Plan is Build's, ahead of what out is; nothing is laid down.
func TestK3WhatPlanRefuses(t *testing.T) {
	x := stock(t, small(), plain())
	x.reels["slow"] = hollow(t, api.Label{Rate: api.Rate24}, 3)
	x.reels["nil"] = nil
	lists := append(noLists(), listOf(cut("nobody", 0, 1)), listOf(cut("a", 100, 101), cut("nil", 0, 1)), listOf(cut("b", 0, 1), cut("b", 0, 1), fade(1, "slow", 0, 1)), listOf(cut("a", 100, 111)), listOf(cut("a", 100, 110), cut("a", 99, 101)))
	for _, l := range lists {
		event, fault := refusal(l, x.reels)
		if fault == api.OK {
			t.Fatal("the test is none:", l)
		}
		builds(t, l, x, plain(), api.MaxSamples)
		for _, out := range []*medium.Medium{load(t, []byte("x")), kill(t, medium.New()), x.media["a"]} {
			was := out.Bytes()
			built, err := conform.Build(l, x.reels, api.Config{}, 0, out)
			says(t, err, event, fault)
			if built != (api.Built{}) {
				t.Fatal(built)
			}
			as(t, out, was)
		}
		_, err := conform.Build(l, nil, plain(), 0, medium.New())
		event, fault = refusal(l, nil)
		says(t, err, event, fault)
	}
}

// K3: an out that has bytes, that of a reel too, and one that is dead, are refused of no event, ahead of all records.
func TestK3WhatCreateRefuses(t *testing.T) {
	x := stock(t, small(), plain())
	must(t, x.media["a"].Truncate(300), api.OK)
	for _, l := range []api.CutList{theCut(), listOf()} {
		for _, out := range []*medium.Medium{load(t, []byte("x")), laid(t, api.Label{Rate: 1}, false), kill(t, load(t, []byte("REEL"))), x.media["a"], x.media["b"]} {
			was := out.Bytes()
			unchanged := watch(t, l, x)
			built, err := conform.Build(l, x.reels, api.Config{}, 0, out)
			says(t, err, -1, api.ErrReelThere)
			if built != (api.Built{}) {
				t.Fatal(built)
			}
			as(t, out, was)
			unchanged()
		}
		out := kill(t, medium.New())
		built, err := conform.Build(l, x.reels, api.Config{}, 0, out)
		says(t, err, -1, api.ErrMediumDead)
		if built != (api.Built{}) || out.Size() != 0 {
			t.Fatal(built, out.Size())
		}
	}
}

// K3: a title of as many bytes as may be, and one of none.
func TestK3Titles(t *testing.T) {
	x := stock(t, small(), plain())
	for _, title := range []string{"", "a", "日本", string(make([]byte, 100))} {
		l := theCut()
		l.Title = title
		y := builds(t, l, x, plain(), api.MaxSamples)
		if r := open(t, load(t, y.bytes)); y.fault != api.OK || r.Label().Title != title {
			t.Fatal(r.Label(), y.fault)
		}
	}
}

// K3: the limit: at the samples of a frame that is mixed, below, at 0, and beyond what view takes; what is copied ahead stays.
func TestK3Limits(t *testing.T) {
	for _, s := range shapes() {
		x := stock(t, s, plain())
		n := samples(s)
		unbuilt(t, theCut(), x, plain(), 0, 1, api.ErrLimit, 2)
		unbuilt(t, theCut(), x, plain(), n-1, 1, api.ErrLimit, 2)
		for _, limit := range []int{n, n + 1, api.MaxSamples} {
			if y := builds(t, theCut(), x, plain(), limit); y.fault != api.OK {
				t.Fatal(y.fault)
			}
		}
		for _, limit := range []int{api.MaxSamples + 1, math.MaxInt} {
			unbuilt(t, theCut(), x, plain(), limit, 1, api.ErrArg, 2)
		}
	}
}

// K3: configurations that may not be for the frames that are mixed.
func TestK3ConfigurationsThatMayNotBe(t *testing.T) {
	x := stock(t, small(), plain())
	odd, narrow, wide, below := plain(), plain(), plain(), plain()
	odd.SliceW, narrow.SliceH, wide.SliceW, below.Cap = 17, 15, 4098, -1
	for _, c := range []api.Config{{}, by(0), by(17, api.Rung{}), by(-1, api.Rung{}), by(0, api.Rung{0, 0, 0, 1}), by(0, api.Rung{64, 0, 0, 0}), by(0, api.Rung{}, api.Rung{0, -1, 0, 0}), by(0, make([]api.Rung, 17)...), odd, narrow, wide, below} {
		must(t, picture.Valid(c, small()), api.ErrPictureConfig)
		unbuilt(t, theCut(), x, c, api.MaxSamples, 1, api.ErrPictureConfig, 2)
	}
}

// K3: a cap that no rung keeps to; one that a later rung keeps to takes that.
func TestK3Caps(t *testing.T) {
	x := stock(t, small(), plain())
	c := by(0, api.Rung{}, api.Rung{3, 3, 3, 0}, api.Rung{63, 63, 63, 0})
	c.Cap = 40
	unbuilt(t, theCut(), x, c, api.MaxSamples, 1, api.ErrCap, 2)
	steps := map[api.Rung]int{}
	told := map[api.Errno]int{}
	for c.Cap = 100; c.Cap < 1500; c.Cap += 20 {
		y := builds(t, theCut(), x, c, api.MaxSamples)
		told[y.fault]++
		r := open(t, load(t, y.bytes))
		for i := 2; i < min(r.Count(), 4); i++ {
			src, _ := r.Record(i)
			h, e := view.Head(src)
			must(t, e, api.OK)
			if h.Length > c.Cap {
				t.Fatal(h.Length, c.Cap)
			}
			steps[h.Rung]++
		}
	}
	if len(steps) != 3 || told[api.OK] == 0 || told[api.ErrCap] == 0 {
		t.Fatal("the test is none:", steps, told)
	}
}

// K3: frames of two shapes that are to be mixed, at each step of a fade.
func TestK3Shapes(t *testing.T) {
	c := chance(34)
	for i, s := range shapes() {
		for j, r := range shapes() {
			if i == j {
				continue
			}
			var one, two [][]byte
			for range 3 {
				one = append(one, coded(t, noisy(&c, s), plain()))
				two = append(two, coded(t, noisy(&c, s), plain()))
			}
			// The last frame of the fade is of another shape, on one side or on the other; copied it does not matter.
			one = append(one, coded(t, noisy(&c, r), plain()))
			two[2] = coded(t, noisy(&c, r), plain())
			x := storeOf(t, map[string]*medium.Medium{"x": laid(t, api.Label{Rate: api.Rate25}, true, one...), "y": laid(t, api.Label{Rate: api.Rate25}, true, two...)})
			unbuilt(t, listOf(cut("x", 0, 3), fade(3, "y", 0, 3)), x, plain(), api.MaxSamples, 1, api.ErrConformShape, 2)
			unbuilt(t, listOf(cut("x", 1, 4), fade(2, "y", 0, 3)), x, plain(), api.MaxSamples, 1, api.ErrConformShape, 2)
			unbuilt(t, listOf(cut("x", 3, 4), fade(1, "y", 0, 1)), x, plain(), api.MaxSamples, 1, api.ErrConformShape, 0)
			if y := builds(t, listOf(cut("x", 0, 4), cut("y", 0, 3)), x, plain(), api.MaxSamples); y.fault != api.OK {
				t.Fatal(y.fault)
			}
			if y := builds(t, listOf(cut("x", 3, 4), fade(1, "y", 2, 3)), x, plain(), api.MaxSamples); y.fault != api.OK {
				t.Fatal(y.fault)
			}
		}
	}
}

// P20.2, T11: reels by rungs of their own, mixed by a ladder and caps by chance: each copied record is the reel's, byte for byte, each mixed one is within the tolerance of its rung of the mixture of what the two records decode to.
func TestP20_2ByChance(t *testing.T) {
	c := chance(202)
	names := []string{"a", "b", "c"}
	mixed, later := 0, 0
	for range 250 {
		s := shapes()[c.below(len(shapes()))]
		rung := func() api.Rung { return api.Rung{c.below(9), c.below(64), c.below(20), 0} }
		x := stockBy(t, s, map[string]api.Config{"a": by(0, rung()), "b": by(c.below(3), rung()), "c": by(1, api.Rung{})})
		config := by(c.below(3), rung(), api.Rung{10, 20, 30, 0}, api.Rung{63, 63, 63, 0})
		config.SliceW += 2 * c.below(5)
		config.SliceH += c.below(9)
		if c.below(2) == 0 {
			config.Cap = 100 + c.below(1500)
		}
		l := someList(&c, x.reels, names, 7)
		if _, fault := refusal(l, x.reels); fault != api.OK {
			continue
		}
		y := builds(t, l, x, config, samples(s))
		steps, _ := planned(l, x.reels)
		r := open(t, load(t, y.bytes))
		if y.fault == api.OK && (r.Count() != len(steps) || y.built.Frames != len(steps) || y.built.Copied+y.built.Mixed != len(steps)) {
			t.Fatal(r.Count(), y.built)
		}
		for i := range r.Count() {
			step := steps[i]
			src, e := r.Record(i)
			must(t, e, api.OK)
			if step.Over == "" {
				b, _ := src.Read(0, src.Size())
				if !slices.Equal(b, recordsOf(t, x, step.Reel)[step.Frame]) {
					t.Fatal("another record:", step)
				}
				continue
			}
			mixed++
			f, report, e := view.Whole(src, samples(s))
			must(t, e, api.OK)
			if slices.Contains(report.Marks, api.Lost) || !slices.Contains(config.Ladder, report.Head.Rung) {
				t.Fatal(report)
			}
			if report.Head.Rung != config.Ladder[0] {
				later++
			}
			near(t, mixedFrames(frameOf(t, x, step.Reel, step.Frame), frameOf(t, x, step.Over, step.With), step.Part, step.Of), f, report.Head.Rung)
		}
	}
	if mixed < 200 || later < 10 {
		t.Error("too few:", mixed, later)
	}
}

// frameOf is what a record decodes to.
func frameOf(t *testing.T, x store, name string, i int) api.Frame {
	t.Helper()
	src, e := x.reels[name].Record(i)
	must(t, e, api.OK)
	f, _, e := view.Whole(src, api.MaxSamples)
	must(t, e, api.OK)
	return f
}

// near looks whether a frame is within tolerances of another one.
func near(t *testing.T, f, g api.Frame, far api.Rung) {
	t.Helper()
	apart, e := plane.Apart(f, g)
	must(t, e, api.OK)
	for p := range apart {
		if apart[p] > far[p] {
			t.Fatal(apart, "and not", far)
		}
	}
}

// T11: what a list made is a reel of which a list may be made again: copied whole it is the same bytes, and its mixed records come out of a second cut as they are.
func TestT11ACutIsCutAgain(t *testing.T) {
	x := stock(t, small(), plain())
	y := builds(t, theCut(), x, by(2, api.Rung{4, 4, 4, 0}), api.MaxSamples)
	must(t, y.fault, api.OK)
	x.media["cut"] = load(t, y.bytes)
	x.reels["cut"] = open(t, x.media["cut"])
	again := builds(t, listOf(cut("cut", 0, 11)), x, api.Config{}, 0)
	as(t, load(t, again.bytes), y.bytes)
	z := builds(t, listOf(cut("cut", 1, 6), fade(2, "a", 101, 104), fade(1, "cut", 6, 11)), x, plain(), api.MaxSamples)
	if z.fault != api.OK || z.built != (api.Built{Frames: 10, Copied: 7, Mixed: 3}) {
		t.Fatal(z.built, z.fault)
	}
}

// K3: the example of the whole: a reel that begins with the frame 50, cut twice, is copied.
func TestK3ExampleOfTheWhole(t *testing.T) {
	s := api.Shape{Width: 48, Height: 32, Depth: 10}
	ramp := func() api.Frame {
		return painted(s, func(p, i int) int {
			w, _, _ := plane.Size(s, p)
			return 3*(i%w) + 7*(i/w) + p
		})
	}
	c := by(0, api.Rung{})
	records := [][]byte{coded(t, ramp(), c), coded(t, flat(s, 100), c), coded(t, ramp(), c)}
	m := laid(t, api.Label{Title: "Day Two", Rate: api.Rate25, Start: 50}, false, records...)
	x := store{map[string]*medium.Medium{"n": m}, map[string]*reel.Reel{"n": open(t, m)}}
	l := api.CutList{Title: "cut", Rate: api.Rate25, Events: []api.Event{cut("n", 50, 52), cut("n", 51, 53)}}
	y := builds(t, l, x, c, api.MaxSamples)
	if y.fault != api.OK || y.built != (api.Built{Frames: 4, Copied: 4}) {
		t.Fatal(y.built, y.fault)
	}
	as(t, load(t, y.bytes), laid(t, api.Label{Title: "cut", Rate: api.Rate25}, true, records[0], records[1], records[1], records[2]).Bytes())
}
