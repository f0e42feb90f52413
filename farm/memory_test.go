package farm_test

import (
	"reflect"
	"slices"
	"testing"

	"dailies/api"
	"dailies/farm"
)

// roomy is a frame whose lists have room behind them that is written full.
func roomy(f api.Frame) api.Frame {
	g := api.Frame{Shape: f.Shape, Planes: spare(f.Planes, []uint16{1, 2})}
	for p := range g.Planes {
		g.Planes[p] = spare(g.Planes[p], 777)
	}
	return g
}

// behind is all that a list has, with its spare room, in other memory.
func behind[T any](list []T) []T { return slices.Clone(list[:cap(list)]) }

// handed is what New and Render are given, with room behind every list.
type handed struct {
	frames []api.Frame
	config api.Config
	fails  []int
}

func handedOf(frames []api.Frame, c api.Config, fails []int) handed {
	h := handed{config: c, fails: spare(fails, 77)}
	for _, f := range frames {
		h.frames = append(h.frames, roomy(f))
	}
	h.frames = spare(h.frames, api.Frame{})
	h.config.Ladder = spare(c.Ladder, api.Rung{5, 5, 5, 5})
	return h
}

// all is all of it, in other memory.
func (h handed) all() handed {
	out := handed{config: h.config, fails: behind(h.fails), frames: behind(h.frames)}
	out.config.Ladder = behind(h.config.Ladder)
	for i, f := range out.frames {
		out.frames[i].Planes = behind(f.Planes)
		for p, samples := range out.frames[i].Planes {
			out.frames[i].Planes[p] = behind(samples)
		}
	}
	return out
}

// scribble writes over all of it.
func (h handed) scribble() {
	for _, f := range h.frames {
		for _, samples := range f.Planes {
			flip(samples)
		}
		clear(f.Planes[:cap(f.Planes)])
	}
	clear(h.frames[:cap(h.frames)])
	for i := range h.config.Ladder[:cap(h.config.Ladder)] {
		h.config.Ladder[:cap(h.config.Ladder)][i] = api.Rung{99, -1, 64, 3}
	}
	flip(h.fails)
}

// P3: nothing that is handed in is written into, nor what stands behind it.
func TestP3NothingHandedInIsWrittenInto(t *testing.T) {
	k, sorts := tight(t)
	wrong := slices.Concat(sorts, []api.Frame{wrongFrames()[api.ErrPlaneSample]})
	for _, frames := range [][]api.Frame{sorts, wrong, nil} {
		for _, workers := range []int{-1, 0, 1, 2, 16, 17} {
			h := handedOf(frames, k, []int{1, 0, 5})
			was := h.all()
			farm.Render(h.frames, h.config, workers, h.fails)
			f, e := farm.New(h.frames, h.config, workers, 2)
			if e == api.OK {
				for range frames {
					f.Take(0)
					f.Deliver(0)
				}
				f.Result()
			}
			if !reflect.DeepEqual(h.all(), was) {
				t.Fatal(len(frames), workers, "something is another one")
			}
		}
	}
}

// P3: frames and ladder that their owner writes over change nothing in a farm, at whatever moment.
func TestP3NothingHandedInIsKept(t *testing.T) {
	k, sorts := tight(t)
	want := byOneHand(sorts, k)
	for moment := range 6 {
		h := handedOf(sorts, k, nil)
		f := made(t, h.frames, h.config, 3, 2)
		for step := range 6 {
			if step == moment {
				h.scribble()
			}
			if step < 3 {
				takes(t, f, step, step)
			} else {
				delivers(t, f, step-3, want[step-3])
			}
		}
		results(t, f, records(want))
	}
}

// P3: what Render told stays as it is, whatever becomes of what it was given.
func TestP3RenderKeepsNothing(t *testing.T) {
	k, sorts := tight(t)
	want := records(byOneHand(sorts, k), 0)
	for _, workers := range []int{1, 3, 16} {
		h := handedOf(sorts, k, []int{5, 1})
		list, e := farm.Render(h.frames, h.config, workers, h.fails)
		h.scribble()
		if e != api.OK || !slices.EqualFunc(list, want, sameCoded) {
			t.Fatal(workers, e)
		}
	}
}

// P3: what a farm tells is its owner's to write over: records of Deliver and of Result, the lists, and which workers lost theirs.
func TestP3WhatIsToldIsItsOwners(t *testing.T) {
	k, sorts := tight(t)
	// Two frames that are one: their records are two.
	frames := []api.Frame{sorts[0], sorts[1], sorts[0], sorts[2]}
	want := byOneHand(frames, k)
	f := made(t, frames, k, 4, 1)
	for worker := range 4 {
		takes(t, f, worker, worker)
	}
	flip(f.Tick())
	for worker := range 4 {
		takes(t, f, worker, worker)
	}
	list := f.Tick()
	flip(f.Tick())
	if !slices.Equal(list, []int{0, 1, 2, 3}) {
		t.Fatal(list)
	}
	for worker := range 4 {
		takes(t, f, worker, worker)
		x, e := f.Deliver(worker)
		if !want[worker].is(x, e) {
			t.Fatal(worker, e)
		}
		flip(x.Bytes)
	}
	kept, _ := f.Result()
	for range 3 {
		list, e := f.Result()
		if e != api.OK || !slices.EqualFunc(list, records(want), sameCoded) {
			t.Fatal("another answer", e)
		}
		for i, x := range list {
			flip(x.Bytes)
			if i+1 < len(list) && !sameCoded(list[i+1], want[i+1].coded) {
				t.Fatal(i, "two records of one answer share memory")
			}
		}
		clear(list[:cap(list)])
	}
	if !slices.EqualFunc(kept, records(want), sameCoded) {
		t.Fatal("two answers share memory")
	}
	// And of Render.
	list2, _ := farm.Render(frames, k, 2, nil)
	for i, x := range list2 {
		if !sameCoded(x, want[i].coded) {
			t.Fatal(i, "two records of one answer share memory")
		}
		flip(x.Bytes)
	}
	renders(t, frames, k, 2, nil, records(want))
}
