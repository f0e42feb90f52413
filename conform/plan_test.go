package conform_test

import (
	"math"
	"slices"
	"strings"
	"testing"

	"dailies/api"
	"dailies/conform"
	"dailies/cuts"
	"dailies/reel"
)

// hollows are the reels of the chapter's example: A of Start 100 with 10 records, B of Start 0 with 5.
func hollows(t *testing.T) map[string]*reel.Reel {
	t.Helper()
	return map[string]*reel.Reel{
		"a": hollow(t, api.Label{Rate: api.Rate25, Start: 100}, 10),
		"b": hollow(t, api.Label{Rate: api.Rate25}, 5),
	}
}

// K1: the chapter's examples.
func TestK1Examples(t *testing.T) {
	reels := hollows(t)
	steps := plans(t, listOf(cut("a", 102, 106), fade(2, "b", 1, 4)), reels)
	want := []conform.Step{
		{Reel: "a", Frame: 2},
		{Reel: "a", Frame: 3},
		{Reel: "a", Frame: 4, Over: "b", With: 1, Part: 1, Of: 3},
		{Reel: "a", Frame: 5, Over: "b", With: 2, Part: 2, Of: 3},
		{Reel: "b", Frame: 3},
	}
	if !slices.Equal(steps, want) {
		t.Fatal(steps)
	}
	unplanned(t, listOf(cut("a", 102, 111), fade(2, "b", 1, 4)), reels, 0, api.ErrConformRange)
	unplanned(t, listOf(cut("a", 99, 106), fade(2, "b", 1, 4)), reels, 0, api.ErrConformRange)
	unplanned(t, listOf(cut("c", 102, 106), fade(2, "b", 1, 4)), reels, 0, api.ErrConformReel)
	unplanned(t, listOf(cut("a", 102, 106), fade(2, "c", 1, 4)), reels, 1, api.ErrConformReel)
}

// noLists are lists that cuts.Check refuses, of the list itself and of an event.
func noLists() []api.CutList {
	noted := func(s string) api.Event { return api.Event{Reel: "a", In: 100, Out: 104, Note: s} }
	return []api.CutList{
		{Title: strings.Repeat("x", 101), Rate: api.Rate25},
		{Title: "\xff", Rate: api.Rate25},
		{Rate: 0}, {Rate: 8}, {Rate: -1}, {Rate: math.MaxInt}, {Rate: math.MinInt},
		listOf(slices.Repeat([]api.Event{cut("a", 100, 101)}, 201)...),
		listOf(cut("A", 100, 101)), listOf(cut("", 100, 101)), listOf(cut("a", 100, 104), cut("b ", 0, 1)), listOf(cut(strings.Repeat("a", 17), 100, 101)),
		listOf(cut("a", 101, 101)), listOf(cut("a", 102, 101)), listOf(cut("a", -1, 1)), listOf(cut("a", 100, 2160000)), listOf(cut("a", math.MinInt, math.MaxInt)), listOf(cut("a", 0, math.MaxInt)), listOf(cut("a", 100, 104), cut("b", 3, 2)),
		listOf(fade(1, "a", 100, 104)), listOf(fade(-1, "a", 100, 104)), listOf(cut("a", 100, 104), fade(5, "b", 0, 5)), listOf(cut("a", 100, 110), fade(5, "b", 0, 4)),
		listOf(cut("a", 100, 104), fade(2, "b", 0, 4), fade(3, "a", 100, 110)), listOf(cut("a", 100, 104), fade(math.MaxInt, "b", 0, 5)), listOf(cut("a", 100, 104), fade(math.MinInt, "b", 0, 5)),
		listOf(noted(strings.Repeat("x", 101))), listOf(cut("b", 0, 3), noted("a\xc3")),
	}
}

// K1: the error of cuts.Check is Plan's, whatever the reels are, and whatever an event ahead lacks.
func TestK1ListsThatCheckRefuses(t *testing.T) {
	for _, l := range noLists() {
		want := cuts.Check(l)
		if want == nil {
			t.Fatal("the test is none:", l)
		}
		x := want.(*cuts.EventError)
		for _, reels := range []map[string]*reel.Reel{nil, {}, hollows(t), {"a": nil, "b": nil}, {"a": hollow(t, api.Label{Rate: api.Rate24}, 3)}} {
			unplanned(t, l, reels, x.Event, x.Err)
		}
	}
	// An event that no reel has, ahead of one that may not be.
	unplanned(t, listOf(cut("nobody", 0, 9), cut("a", 3, 2)), hollows(t), 1, api.ErrCutsTime)
}

// K1: a list of 200 events may be, each at its own reel's place.
func TestK1ManyEvents(t *testing.T) {
	var events []api.Event
	for i := range 200 {
		if i%2 == 0 {
			events = append(events, fade(i%3, "a", 100+i%3, 106))
		} else {
			events = append(events, fade(i%3, "b", 1, 5))
		}
	}
	if steps := plans(t, listOf(events...), hollows(t)); len(steps) == 0 {
		t.Fatal("no steps")
	}
}

// K1: a name that the map has not, or whose reel is nil; names are told apart byte by byte.
func TestK1NoSuchReel(t *testing.T) {
	reels := hollows(t)
	reels["n"] = nil
	for _, name := range []string{"c", "aa", "a-", "0", "_", "n", strings.Repeat("a", 16)} {
		unplanned(t, listOf(cut(name, 100, 101)), reels, 0, api.ErrConformReel)
		unplanned(t, listOf(cut("a", 100, 104), cut(name, 0, 1)), reels, 1, api.ErrConformReel)
		unplanned(t, listOf(cut("a", 100, 104), cut("b", 0, 3), fade(2, name, 0, 2), cut("nobody", 0, 1)), reels, 2, api.ErrConformReel)
	}
	unplanned(t, listOf(cut("a", 100, 101)), nil, 0, api.ErrConformReel)
	unplanned(t, listOf(cut("a", 100, 101)), map[string]*reel.Reel{}, 0, api.ErrConformReel)
	// Names that no list may have do not matter in the map.
	reels["A"], reels[""] = nil, nil
	plans(t, listOf(cut("a", 100, 101)), reels)
	long := strings.Repeat("z", 16)
	reels[long] = reels["a"]
	if steps := plans(t, listOf(cut(long, 100, 101)), reels); len(steps) != 1 || steps[0].Reel != long {
		t.Fatal(steps)
	}
}

// K1: a reel of another rate than the list's, of each pair of rates; a reel that no event names may have any.
func TestK1AnotherRate(t *testing.T) {
	for is := api.Rate24; is <= api.Rate60Drop; is++ {
		reels := map[string]*reel.Reel{"x": hollow(t, api.Label{Rate: is, Start: 10}, 4)}
		for wants := api.Rate24; wants <= api.Rate60Drop; wants++ {
			reels["y"] = hollow(t, api.Label{Rate: wants, Start: 20}, 4)
			l := api.CutList{Rate: wants, Events: []api.Event{cut("y", 20, 24), fade(2, "x", 10, 14)}}
			if is == wants {
				plans(t, l, reels)
			} else {
				unplanned(t, l, reels, 1, api.ErrConformRate)
				l.Events[1] = cut("x", 1, 90)
				unplanned(t, l, reels, 1, api.ErrConformRate)
			}
			l.Events = l.Events[:1]
			plans(t, l, reels)
		}
	}
}

// K1: every In and Out about a reel's Start, and about its end; reels without a record have no frame at all.
func TestK1Range(t *testing.T) {
	for _, start := range []int{0, 1, 2, 100} {
		for count := range 5 {
			reels := map[string]*reel.Reel{"x": hollow(t, api.Label{Rate: api.Rate25, Start: start}, count)}
			for in := max(start-3, 0); in <= start+count+2; in++ {
				for out := in + 1; out <= start+count+3; out++ {
					l := listOf(cut("x", in, out))
					if in >= start && out <= start+count {
						if steps := plans(t, l, reels); len(steps) != out-in || steps[0].Frame != in-start {
							t.Fatal(steps)
						}
					} else {
						unplanned(t, l, reels, 0, api.ErrConformRange)
					}
				}
			}
		}
	}
}

// K1: a Start near a day's end: numbers go on beyond it, and a list has none of these; a Start beyond its rate's day has no frame that a list could name.
func TestK1NearADaysEnd(t *testing.T) {
	for rate := api.Rate24; rate <= api.Rate60Drop; rate++ {
		day := perDay(rate)
		reels := map[string]*reel.Reel{"x": hollow(t, api.Label{Rate: rate, Start: day - 5}, 12)}
		l := api.CutList{Rate: rate, Events: []api.Event{cut("x", day-5, day-1)}}
		want := []conform.Step{{Reel: "x"}, {Reel: "x", Frame: 1}, {Reel: "x", Frame: 2}, {Reel: "x", Frame: 3}}
		if steps := plans(t, l, reels); !slices.Equal(steps, want) {
			t.Fatal(steps)
		}
		l.Events[0].Out = day
		unplanned(t, l, reels, 0, api.ErrCutsTime)
		l.Events[0] = cut("x", day-6, day-1)
		unplanned(t, l, reels, 0, api.ErrConformRange)
		// They do not begin anew: the frame 0 is none of this reel's.
		for in := range 8 {
			l.Events[0] = cut("x", in, in+1)
			unplanned(t, l, reels, 0, api.ErrConformRange)
		}
		for _, start := range []int{day - 1, day, day + 1, 5183999} {
			if start > 5183999 {
				continue
			}
			reels["x"] = hollow(t, api.Label{Rate: rate, Start: start}, 3)
			l.Events[0] = cut("x", day-2, day-1)
			unplanned(t, l, reels, 0, api.ErrConformRange)
			l.Events[0] = cut("x", 0, 1)
			unplanned(t, l, reels, 0, api.ErrConformRange)
		}
	}
}

// K1: of several errors that of the first event; of one event's the one that is named first.
func TestK1TheFirstError(t *testing.T) {
	reels := hollows(t)
	reels["slow"] = hollow(t, api.Label{Rate: api.Rate24}, 3)
	reels["nil"] = nil
	bad := []struct {
		event api.Event
		fault api.Errno
	}{
		{cut("nil", 0, 1), api.ErrConformReel},
		{cut("nobody", 0, 1), api.ErrConformReel},
		{cut("slow", 0, 1), api.ErrConformRate},
		{cut("slow", 5, 9), api.ErrConformRate},
		{cut("a", 99, 101), api.ErrConformRange},
		{cut("a", 109, 111), api.ErrConformRange},
		{cut("a", 0, 2000), api.ErrConformRange},
	}
	for _, x := range bad {
		for _, y := range bad {
			unplanned(t, listOf(x.event, y.event), reels, 0, x.fault)
			unplanned(t, listOf(cut("b", 0, 1), x.event, y.event, cut("a", 100, 101)), reels, 1, x.fault)
		}
	}
}

// K1: no event is no step, whatever the reels are.
func TestK1NoEvent(t *testing.T) {
	for rate := api.Rate24; rate <= api.Rate60Drop; rate++ {
		for _, events := range [][]api.Event{nil, {}} {
			for _, reels := range []map[string]*reel.Reel{nil, hollows(t), {"a": nil}} {
				if steps := plans(t, api.CutList{Rate: rate, Events: events}, reels); len(steps) != 0 {
					t.Fatal(steps)
				}
			}
		}
	}
}

// K1: fades of 0, of 1, of 100, as long as the event, as what is left of the one ahead, and of both at once.
func TestK1Fades(t *testing.T) {
	reels := map[string]*reel.Reel{"x": hollow(t, api.Label{Rate: api.Rate25, Start: 1000}, 300), "y": hollow(t, api.Label{Rate: api.Rate25, Start: 7}, 300)}
	for _, n := range []int{0, 1, 2, 99, 100} {
		for _, more := range []int{0, 1, 5} {
			for _, less := range []int{0, 1, 5} {
				if n+more == 0 || n+less == 0 {
					continue
				}
				l := listOf(cut("x", 1003, 1003+n+more), fade(n, "y", 9, 9+n+less))
				steps := plans(t, l, reels)
				if len(steps) != n+more+less {
					t.Fatal(n, more, less, len(steps))
				}
				for j := range n {
					if want := (conform.Step{Reel: "x", Frame: 3 + more + j, Over: "y", With: 2 + j, Part: j + 1, Of: n + 1}); steps[more+j] != want {
						t.Fatal(steps[more+j], want)
					}
				}
				// A third event takes just what is left, or a part of it.
				for k := range min(less, 100) + 1 {
					l := l
					l.Events = append(slices.Clone(l.Events), fade(k, "x", 1100, 1110))
					if steps := plans(t, l, reels); len(steps) != n+more+less-k+10 {
						t.Fatal(len(steps))
					}
				}
				l.Events = append(slices.Clone(l.Events), fade(less+1, "x", 1100, 1110))
				unplanned(t, l, reels, 2, api.ErrCutsOrder)
			}
		}
		l := listOf(cut("x", 1003, 1100), cut("y", 7, 100))
		l.Events[1].Fade = 101
		unplanned(t, l, reels, 1, api.ErrCutsOrder)
	}
	// All of each event is faded: nothing is copied behind the first one.
	l := listOf(cut("x", 1000, 1002), fade(2, "y", 7, 9), cut("y", 20, 21), fade(1, "x", 1001, 1002), cut("x", 1005, 1006))
	want := []conform.Step{
		{Reel: "x", Frame: 0, Over: "y", With: 0, Part: 1, Of: 3},
		{Reel: "x", Frame: 1, Over: "y", With: 1, Part: 2, Of: 3},
		{Reel: "y", Frame: 13, Over: "x", With: 1, Part: 1, Of: 2},
		{Reel: "x", Frame: 5},
	}
	if steps := plans(t, l, reels); !slices.Equal(steps, want) {
		t.Fatal(steps)
	}
}

// K1: the same reel on both sides of a fade, and one that stands under two names.
func TestK1TheSameReelOnBothSides(t *testing.T) {
	reels := hollows(t)
	reels["again"] = reels["a"]
	for _, name := range []string{"a", "again"} {
		for in := 100; in <= 106; in++ {
			steps := plans(t, listOf(cut("a", 101, 107), fade(4, name, in, in+4)), reels)
			want := conform.Step{Reel: "a", Frame: 3, Over: name, With: in - 100, Part: 1, Of: 5}
			if len(steps) != 6 || steps[2] != want {
				t.Fatal(steps)
			}
		}
	}
}

// someList is a list by chance, of reels that are there or not, most of which can be made.
func someList(c *chance, reels map[string]*reel.Reel, names []string, most int) api.CutList {
	l := api.CutList{Title: "t", Rate: api.Rate25}
	left := 0
	for i := range c.below(most) {
		name := names[c.below(len(names))]
		start, count := 0, 5
		if r := reels[name]; r != nil {
			start, count = r.Label().Start, r.Count()
		}
		in := start + c.below(count)
		out := in + 1 + c.below(start+count-in)
		if c.below(40) == 0 {
			in = max(in-c.below(4), 0)
		}
		if c.below(40) == 0 {
			out += c.below(4)
		}
		n := 0
		if i > 0 && c.below(3) > 0 {
			n = c.below(max(min(left, out-in), 0) + 1)
		}
		if c.below(80) == 0 {
			n++
		}
		l.Events = append(l.Events, fade(n, name, in, out))
		left = out - in - n
	}
	if c.below(60) == 0 {
		l.Rate = api.Rate(c.below(9))
	}
	return l
}

// K1, P20.1: lists and reels by chance; as many steps as cuts.Length tells frames, each of records that there are.
func TestP20_1ByChance(t *testing.T) {
	reels := hollows(t)
	reels["c"] = hollow(t, api.Label{Rate: api.Rate25, Start: 2159990}, 30)
	reels["d"] = hollow(t, api.Label{Rate: api.Rate25, Start: 3}, 1)
	reels["slow"] = hollow(t, api.Label{Rate: api.Rate24, Start: 3}, 9)
	reels["n"] = nil
	names := []string{"a", "b", "c", "d"}
	for range 60 {
		names = append(names, "a", "b", "c", "d")
	}
	names = append(names, "slow", "n", "nobody")
	c := chance(201)
	told := map[api.Errno]int{}
	for range 6000 {
		l := someList(&c, reels, names, 9)
		_, fault := refusal(l, reels)
		told[fault]++
		steps := plans(t, l, reels)
		if fault != api.OK {
			continue
		}
		if n, err := cuts.Length(l); err != nil || n != len(steps) {
			t.Fatal(n, err, len(steps))
		}
		for _, s := range steps {
			there(t, reels, s.Reel, s.Frame)
			if s.Over != "" {
				there(t, reels, s.Over, s.With)
				if s.Part < 1 || s.Part >= s.Of || s.Of > 101 {
					t.Fatal(s)
				}
			} else if s.With != 0 || s.Part != 0 || s.Of != 0 {
				t.Fatal(s)
			}
		}
	}
	for _, e := range []api.Errno{api.OK, api.ErrConformReel, api.ErrConformRate, api.ErrConformRange, api.ErrCutsOrder, api.ErrTimecodeRate} {
		if told[e] < 10 {
			t.Error("too few:", e, told)
		}
	}
}

// there looks whether a reel has a record.
func there(t *testing.T, reels map[string]*reel.Reel, name string, i int) {
	t.Helper()
	if _, e := reels[name].Receipt(i); e != api.OK {
		t.Fatal(name, i, e)
	}
}

// K1, P20.1: a list that makes millions of frames of a reel with as many records as may be.
func TestP20_1MillionsOfFrames(t *testing.T) {
	reels := map[string]*reel.Reel{"x": hollow(t, api.Label{Rate: api.Rate25, Start: 50}, api.MaxFrames)}
	l := listOf(slices.Repeat([]api.Event{fade(0, "x", 50, 50+api.MaxFrames)}, 20)...)
	for i := 1; i < len(l.Events); i++ {
		l.Events[i].Fade = 5 * i
	}
	steps, err := conform.Plan(l, reels)
	n, _ := cuts.Length(l)
	if err != nil || len(steps) != n || n != 20*api.MaxFrames-5*190 {
		t.Fatal(len(steps), n, err)
	}
	if last := steps[n-1]; last != (conform.Step{Reel: "x", Frame: api.MaxFrames - 1}) {
		t.Fatal(last)
	}
	l.Events[3].Out++
	unplanned(t, l, reels, 3, api.ErrConformRange)
}
