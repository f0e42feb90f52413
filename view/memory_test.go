package view_test

import (
	"bytes"
	"reflect"
	"slices"
	"sync"
	"testing"

	"dailies/api"
	"dailies/view"
)

// spare is a list with room behind it that is written full.
func spare[T any](items []T, mark T) []T {
	return append(slices.Clone(items), slices.Repeat([]T{mark}, 5)...)[:len(items)]
}

func flip[T byte | uint16](items []T) {
	for i := range items {
		items[i] = ^items[i]
	}
}

// asked are all calls of a record of which one slice is mended, so that all kinds of answers are told.
func asked(t *testing.T) ([]byte, []asking) {
	t.Helper()
	record, h, list := shown(t)
	n := samples(h.Shape, all(h.Shape))
	return spoilt(record, list, 5), []asking{
		{what: whole, limit: n}, {what: one, k: 4, limit: n}, {what: one, k: 5, limit: n}, {what: region, r: api.Rect{X: 4, Y: 3, W: 40, H: 15}, limit: n}, {what: region, r: all(h.Shape), limit: n},
		{what: whole, limit: 1}, {what: one, k: 8, limit: n}, {what: region, limit: n},
	}
}

// lists are all lists of samples of an answer.
func (x answer) lists() [][]uint16 {
	list := slices.Clone(x.frame.Planes)
	for _, b := range x.blocks {
		list = append(list, b.Samples)
	}
	return list
}

func (x answer) copied() answer {
	out := x
	out.frame.Planes, out.blocks = nil, nil
	for _, samples := range x.frame.Planes {
		out.frame.Planes = append(out.frame.Planes, slices.Clone(samples))
	}
	for _, b := range x.blocks {
		b.Samples = slices.Clone(b.Samples)
		out.blocks = append(out.blocks, b)
	}
	out.report.Slices, out.report.Marks = slices.Clone(x.report.Slices), slices.Clone(x.report.Marks)
	return out
}

// scribble writes over all of an answer, and over its spare room.
func (x answer) scribble() {
	for _, list := range x.lists() {
		flip(list[:cap(list)])
	}
	clear(x.frame.Planes[:cap(x.frame.Planes)])
	clear(x.blocks[:cap(x.blocks)])
	for i := range x.report.Slices[:cap(x.report.Slices)] {
		x.report.Slices[:cap(x.report.Slices)][i] = -9
	}
	for i := range x.report.Marks[:cap(x.report.Marks)] {
		x.report.Marks[:cap(x.report.Marks)][i] = -9
	}
}

// Neither bytes that are handed in nor what stands behind them is written into; nor is what a source tells, of which nothing is kept.
func TestP3NothingHandedInIsWrittenInto(t *testing.T) {
	b, list := asked(t)
	for _, a := range list {
		in := spare(b, 77)
		was := bytes.Clone(in[:cap(in)])
		src := tapOf(b)
		x, y := a.of(view.Of(in)), a.of(src)
		want := x.copied()
		if !bytes.Equal(in[:cap(in)], was) {
			t.Fatal(a, "bytes that were handed in are other ones")
		}
		for i, told := range src.told {
			span := src.reads[i]
			if !bytes.Equal(told, b[span.At:span.At+span.Length]) {
				t.Fatal(a, "what a source told is written into")
			}
			flip(told)
		}
		flip(in[:cap(in)])
		if !x.is(want) || !y.is(want) {
			t.Fatal(a, "an answer shares memory with what was handed in")
		}
	}
}

func TestP3AnswersShareNoMemory(t *testing.T) {
	b, list := asked(t)
	src := view.Of(b)
	for _, a := range list {
		x, y := a.of(src), a.of(src)
		want := y.copied()
		x.scribble()
		if !y.is(want) || !a.of(src).is(want) {
			t.Fatal(a, "two answers share memory")
		}
	}
}

// The lists of one answer share no memory, nor does what is appended to one reach the next.
func TestP3ListsShareNoMemory(t *testing.T) {
	b, list := asked(t)
	for _, a := range list {
		x := a.of(view.Of(b))
		for p, samples := range x.lists() {
			was := x.copied().lists()
			flip(samples[:cap(samples)])
			_ = append(samples, 1, 2, 3)
			for q, others := range x.lists() {
				if q != p && !slices.Equal(others, was[q]) {
					t.Fatal(a, "the planes", p, "and", q, "share memory")
				}
			}
		}
	}
}

// P4: calls beside one another, on one source and on many, tell the same.
func TestP4CallsBesideOneAnother(t *testing.T) {
	b, list := asked(t)
	one := view.Of(b)
	var want []answer
	for _, a := range list {
		want = append(want, a.of(view.Of(b)))
	}
	var hands sync.WaitGroup
	for range 8 {
		hands.Go(func() {
			for range 4 {
				for i, a := range list {
					if !reflect.DeepEqual(a.of(one), want[i]) || !reflect.DeepEqual(a.of(view.Of(b)), want[i]) {
						t.Error("another answer")
					}
				}
			}
		})
	}
	hands.Wait()
}
