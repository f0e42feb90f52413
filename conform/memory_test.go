package conform_test

import (
	"reflect"
	"slices"
	"sync"
	"testing"

	"dailies/api"
	"dailies/conform"
	"dailies/medium"
	"dailies/plane"
	"dailies/reel"
)

// roomy is a frame whose lists have spare room behind them that is written full.
func roomy(f api.Frame) api.Frame {
	planes := make([][]uint16, 0, len(f.Planes)+3)
	for _, p := range f.Planes {
		list := slices.Repeat([]uint16{999}, len(p)+20)
		copy(list, p)
		planes = append(planes, list[:len(p)])
	}
	all := planes[:cap(planes)]
	for i := len(planes); i < len(all); i++ {
		all[i] = []uint16{1, 2, 3}
	}
	f.Planes = planes
	return f
}

// deep is all that a frame holds, its spare room too.
func deep(f api.Frame) [][]uint16 {
	var out [][]uint16
	for _, p := range f.Planes[:cap(f.Planes)] {
		out = append(out, slices.Clone(p[:cap(p)]))
	}
	return out
}

// P3: Mix leaves its frames as they are, their spare room too, whether it takes them or not; what it tells is new memory, by no part and by all parts, too.
func TestP3MixIsNewMemory(t *testing.T) {
	frames := []api.Frame{roomy(flat(small(), 3)), roomy(flat(small(), 900)), roomy(flat(shapes()[2], 4))}
	for _, f := range noFrames() {
		frames = append(frames, roomy(f))
	}
	var was [][][]uint16
	for _, f := range frames {
		was = append(was, deep(f))
	}
	var told []api.Frame
	for _, a := range frames {
		for _, b := range frames {
			for _, x := range [][2]int{{0, 1}, {1, 1}, {0, 101}, {101, 101}, {1, 2}, {2, 1}} {
				if f, e := conform.Mix(a, b, x[0], x[1]); e == api.OK {
					told = append(told, f)
				}
			}
		}
	}
	if len(told) < 25 {
		t.Fatal("the test is none:", len(told))
	}
	var lists [][]uint16
	for _, f := range told {
		for _, p := range f.Planes {
			lists = append(lists, p[:cap(p)])
		}
		clear(f.Planes[:cap(f.Planes)])
	}
	for i, list := range lists {
		for k := range list {
			list[k] = uint16(i)
		}
	}
	for i, list := range lists {
		for _, v := range list {
			if v != uint16(i) {
				t.Fatal("answers share memory")
			}
		}
	}
	for i, f := range frames {
		if !reflect.DeepEqual(deep(f), was[i]) {
			t.Fatal("a frame is another one:", i)
		}
	}
}

// P3: Plan's steps are new memory, and the list's events, with what stands behind them, are left as they are.
func TestP3PlanIsNewMemory(t *testing.T) {
	reels := hollows(t)
	room := []api.Event{cut("a", 102, 106), fade(2, "b", 1, 4), cut("no", 9, 9), cut("a", 1, 2)}
	was := slices.Clone(room)
	l := listOf(room[:2]...)
	l.Events = room[:2]
	one, err := conform.Plan(l, reels)
	says(t, err, 0, api.OK)
	two, err := conform.Plan(l, reels)
	says(t, err, 0, api.OK)
	want := slices.Clone(one)
	clear(one[:cap(one)])
	if !slices.Equal(two, want) {
		t.Fatal("answers share memory")
	}
	clear(two[:cap(two)])
	if three, err := conform.Plan(l, reels); err != nil || !slices.Equal(three, want) {
		t.Fatal(three, err)
	}
	if !slices.Equal(room, was) {
		t.Fatal("the events are others")
	}
}

// P3, P20.4: Build leaves the list, the ladder, what stands behind both, the map and the media as they are, and keeps none of them: written over behind it, they leave the new reel as it is.
func TestP20_4NothingIsChangedOrKept(t *testing.T) {
	x := stock(t, small(), plain())
	room := slices.Concat(theCut().Events, []api.Event{cut("no", 9, 9)})
	ladder := []api.Rung{{0, 0, 0, 0}, {3, 3, 3, 0}, {8, 8, 8, 8}}
	l, c := theCut(), plain()
	l.Events, c.Ladder = room[:4], ladder[:2]
	wasRoom, wasLadder := slices.Clone(room), slices.Clone(ladder)
	unchanged := watch(t, l, x)
	out := medium.New()
	_, err := conform.Build(l, x.reels, c, api.MaxSamples, out)
	says(t, err, 0, api.OK)
	unchanged()
	if !slices.Equal(room, wasRoom) || !slices.Equal(ladder, wasLadder) {
		t.Fatal("the events or the ladder are others")
	}
	made := out.Bytes()
	want := foretold(t, theCut(), x, plain(), api.MaxSamples).bytes
	clear(room)
	clear(ladder)
	for name := range x.media {
		must(t, x.media[name].Truncate(0), api.OK)
	}
	clear(x.reels)
	as(t, out, made)
	as(t, out, want)
	if open(t, out).Count() != 11 {
		t.Fatal("not all of it")
	}
}

// P4: the answer hangs on nothing else: not on what else stands in the map, not on calls ahead, nor on how often it is asked.
func TestP4NothingElseMatters(t *testing.T) {
	x := stock(t, small(), plain())
	want := builds(t, theCut(), x, plain(), api.MaxSamples)
	others := stock(t, shapes()[1], plain())
	for i := range 30 {
		name := string(rune('d' + i%20))
		x.reels[name] = []*reel.Reel{others.reels["a"], nil, hollow(t, api.Label{Rate: api.Rate(1 + i%7)}, i)}[i%3]
		conform.Plan(listOf(cut(name, 0, 1), cut("a", 5, 3)), x.reels)
		conform.Build(listOf(cut("a", 100, 103), fade(1, name, 100, 101)), x.reels, api.Config{}, i, medium.New())
		y := builds(t, theCut(), x, plain(), api.MaxSamples)
		as(t, load(t, y.bytes), want.bytes)
	}
}

// P4: several hands that make reels of the same reels, each onto a medium of its own, make what one makes alone.
func TestP4ManyHands(t *testing.T) {
	x := stock(t, small(), plain())
	lists := []api.CutList{theCut(), listOf(cut("a", 100, 106), fade(4, "a", 101, 108)), listOf(cut("c", 7, 13), fade(6, "b", 0, 8)), listOf()}
	var want []outcome
	for _, l := range lists {
		want = append(want, foretold(t, l, x, plain(), api.MaxSamples))
	}
	var join sync.WaitGroup
	var right [16]bool
	for i := range right {
		join.Go(func() {
			right[i] = true
			for k := range 2 * len(lists) {
				n := (i + k) % len(lists)
				out := medium.New()
				built, err := conform.Build(lists[n], x.reels, plain(), api.MaxSamples, out)
				right[i] = right[i] && err == nil && built == want[n].built && slices.Equal(out.Bytes(), want[n].bytes)
			}
		})
	}
	join.Wait()
	if slices.Contains(right[:], false) {
		t.Fatal(right)
	}
}

// Ways: a frame is decoded once for all steps of a fade that mix it, and let go of behind the last one: a later fade decodes it again. What is copied is read as a whole.
func TestFramesAreKeptAsLongAsAFadeGoesOn(t *testing.T) {
	x := stock(t, small(), plain())
	m := x.media["a"]
	heads := func(l api.CutList) []int {
		t.Helper()
		m.Forget()
		if _, err := conform.Build(l, x.reels, plain(), api.MaxSamples, medium.New()); err != nil {
			t.Fatal(err)
		}
		n := make([]int, x.reels["a"].Count())
		for i := range n {
			at := receipt(t, x, "a", i).At
			for _, span := range m.Log() {
				if span == (api.Span{At: at, Length: 32}) {
					n[i]++
				}
			}
		}
		return n
	}
	for _, y := range []struct {
		list api.CutList
		want []int
	}{
		{listOf(cut("a", 100, 110)), []int{0, 0, 0, 0, 0, 0, 0, 0, 0, 0}},
		{listOf(cut("a", 100, 104), fade(4, "a", 100, 104)), []int{1, 1, 1, 1, 0, 0, 0, 0, 0, 0}},
		{listOf(cut("a", 100, 104), fade(4, "a", 102, 106)), []int{1, 1, 1, 1, 1, 1, 0, 0, 0, 0}},
		{listOf(cut("a", 102, 106), fade(4, "a", 100, 104)), []int{1, 1, 1, 1, 1, 1, 0, 0, 0, 0}},
		{listOf(cut("a", 102, 106), fade(4, "a", 106, 110)), []int{0, 0, 1, 1, 1, 1, 1, 1, 1, 1}},
		{listOf(cut("a", 100, 104), fade(4, "b", 0, 4)), []int{1, 1, 1, 1, 0, 0, 0, 0, 0, 0}},
		{listOf(cut("a", 100, 102), fade(2, "a", 101, 103), cut("a", 100, 102), fade(2, "a", 101, 103)), []int{2, 2, 2, 0, 0, 0, 0, 0, 0, 0}},
		{listOf(cut("a", 100, 102), fade(2, "b", 0, 4), fade(2, "a", 100, 102)), []int{2, 2, 0, 0, 0, 0, 0, 0, 0, 0}},
	} {
		if n := heads(y.list); !slices.Equal(n, y.want) {
			t.Fatal(y.list.Events, n, y.want)
		}
	}
}

// P1: whatever numbers, texts, lists and maps: a call ends, and does not panic.
func TestP1WhateverIsHandedIn(t *testing.T) {
	c := chance(1)
	x := stock(t, tiny(), plain())
	x.reels["n"] = nil
	numbers := slices.Concat(odd(), great(), []int{0, 1, 2, 7, 9, 100, 103, 106, 110, 2159999, 2160000})
	number := func() int { return numbers[c.below(len(numbers))] }
	names := []string{"a", "b", "c", "n", "d", "", "A", "\xff", "a b"}
	for range 4000 {
		l := api.CutList{Title: names[c.below(len(names))], Rate: api.Rate(c.below(9))}
		if c.below(3) > 0 {
			l.Rate = api.Rate25
		}
		for range c.below(4) {
			l.Events = append(l.Events, api.Event{Reel: names[c.below(len(names))], In: number(), Out: number(), Fade: number(), Note: names[c.below(len(names))]})
		}
		plans(t, l, x.reels)
		config := api.Config{SliceW: number(), SliceH: number(), Cap: number(), Parity: number(), Ladder: make([]api.Rung, c.below(3))}
		if limit := number(); limit >= 0 {
			builds(t, l, x, config, limit)
		}
		f := api.Frame{Shape: api.Shape{Width: number(), Height: number(), Depth: number()}, Planes: make([][]uint16, c.below(5))}
		if _, e := conform.Mix(f, f, number(), number()); e == api.OK && plane.Valid(f) != api.OK {
			t.Fatal("taken:", f.Shape)
		}
	}
}
