package pool_test

import (
	"bytes"
	"reflect"
	"slices"
	"sync"
	"testing"

	"dailies/api"
	"dailies/picture"
	"dailies/pool"
	"dailies/view"
)

// roomy is a frame whose lists have room behind them that is written full.
func roomy(f api.Frame) api.Frame {
	g := api.Frame{Shape: f.Shape, Planes: spare(f.Planes, []uint16{1, 2})}
	for p := range g.Planes {
		g.Planes[p] = spare(g.Planes[p], 777)
	}
	return g
}

// behind is all that a list has, with its spare room.
func behind[T any](list []T) []T { return slices.Clone(list[:cap(list)]) }

// kept tells whether a frame is as it was, its spare room too.
func kept(f api.Frame) func() bool {
	shape, lists := f.Shape, behind(f.Planes)
	for p := range lists {
		lists[p] = behind(lists[p])
	}
	return func() bool {
		return f.Shape == shape && slices.EqualFunc(f.Planes[:cap(f.Planes)], lists, func(a, b []uint16) bool { return slices.Equal(a[:cap(a)], b[:len(b)]) })
	}
}

// P3: what an argument holds is as it was behind every call, and what stands behind it.
func TestP3NothingHandedInIsWrittenInto(t *testing.T) {
	record, h, list := shown(t)
	for _, workers := range []int{-1, 0, 1, 2, 16, 17} {
		for _, most := range []int{0, 700, 1} {
			var frames []api.Frame
			var still []func() bool
			for _, f := range append(row(4), wrongFrames()[api.ErrPlaneSample], ramp(small)) {
				f = roomy(f)
				frames, still = append(frames, f), append(still, kept(f))
			}
			frames = spare(frames, frames[0])
			c := plain
			c.Cap = most
			c.Ladder = spare([]api.Rung{{}, {3, 3, 3}}, api.Rung{5, 5, 5, 5})
			ladder, whole := behind(c.Ladder), behind(frames)
			for _, f := range frames {
				pool.Encode(f, c, workers)
			}
			pool.All(frames, c, workers)
			pool.All(frames[:3], c, workers)
			for range pool.Each(slices.Values(frames), c, workers) {
			}
			for i := range still {
				if !still[i]() {
					t.Fatal(workers, most, "frame", i, "is another one")
				}
			}
			if !slices.Equal(c.Ladder[:cap(c.Ladder)], ladder) || !reflect.DeepEqual(frames[:cap(frames)], whole) {
				t.Fatal(workers, most, "a list is another one")
			}
		}
		// Nor is what a source tells written into, nor kept.
		for _, b := range [][]byte{record, spoilt(record, list, 1, 5)} {
			src := tapOf(spare(b, 77))
			x := wholeOf(src, samples(h.Shape), workers)
			f, r, e := view.Whole(view.Of(b), samples(h.Shape))
			for i, told := range src.told {
				span := src.reads[i]
				if !bytes.Equal(told, b[span.At:span.At+span.Length]) {
					t.Fatal(workers, "what a source told is written into")
				}
				flip(told)
			}
			flip(src.bytes)
			if workers > 0 && workers < 17 && !x.is(answer{f, r, e}) {
				t.Fatal(workers, "an answer shares memory with what a source told")
			}
		}
	}
}

// scribble writes over all that an answer has, and over its spare room.
func (x answer) scribble() {
	for _, samples := range x.frame.Planes {
		flip(samples)
	}
	clear(x.frame.Planes[:cap(x.frame.Planes)])
	for i := range x.report.Slices[:cap(x.report.Slices)] {
		x.report.Slices[:cap(x.report.Slices)][i] = -9
	}
	for i := range x.report.Marks[:cap(x.report.Marks)] {
		x.report.Marks[:cap(x.report.Marks)][i] = -9
	}
}

// P3: records share no memory with frames, nor with one another, of one call or of several.
func TestP3RecordsShareNoMemory(t *testing.T) {
	c := chance(21)
	// Frames of noise are told raw; two of them are one.
	frames := []api.Frame{noise(small, &c), flat(small, 4), mixed(small, &c)}
	frames = append(frames, frames[0], frames[1])
	want := pairsOf(frames, plain)
	for _, workers := range []int{1, 2, 5, 16} {
		var told []api.Coded
		for _, f := range frames {
			x, _ := pool.Encode(f, plain, workers)
			told = append(told, x)
		}
		list, _ := pool.All(frames, plain, workers)
		told = append(told, list...)
		for x := range pool.Each(slices.Values(frames), plain, workers) {
			told = append(told, x)
		}
		for i, x := range told {
			if !want[i%5].is(x, api.OK) {
				t.Fatal(workers, i, "is another one, since one ahead of it was written over")
			}
			flip(x.Bytes)
			_ = append(x.Bytes, 1, 2, 3)
		}
		clear(list[:cap(list)])
		for i, f := range frames {
			if x, e := picture.Encode(f, plain); !want[i].is(x, e) {
				t.Fatal(workers, i, "a record shares memory with a frame")
			}
		}
	}
}

// P3: frames share no memory with the source, with one another, nor their planes.
func TestP3FramesShareNoMemory(t *testing.T) {
	record, h, list := shown(t)
	n := samples(h.Shape)
	for _, b := range [][]byte{record, spoilt(record, list, 1, 5), spoilt(record, list, 0, 4, 7)} {
		src := view.Of(b)
		f, r, e := view.Whole(src, n)
		want := answer{f, r, e}
		for _, workers := range []int{1, 3, 16} {
			x, y := wholeOf(src, n, workers), wholeOf(src, n, workers)
			x.scribble()
			if !y.is(want) || !wholeOf(src, n, workers).is(want) {
				t.Fatal(workers, "two answers share memory")
			}
			for p, samples := range y.frame.Planes {
				flip(samples)
				_ = append(samples, 1, 2, 3)
				for q := p + 1; q < len(y.frame.Planes); q++ {
					if !slices.Equal(y.frame.Planes[q], want.frame.Planes[q]) {
						t.Fatal(workers, "the planes", p, "and", q, "share memory")
					}
				}
			}
		}
	}
}

// L4: what was told stays as it is, whatever the frames' memory becomes, and whatever comes behind.
func TestL4PairsStay(t *testing.T) {
	frames := row(9)
	want := pairsOf(frames, plain)
	for _, workers := range []int{1, 2, 9, 16} {
		s := tellerOf(frames)
		var told []api.Coded
		for x := range pool.Each(s.tell, plain, workers) {
			told = append(told, x)
		}
		for i, x := range told {
			if !want[i].is(x, api.OK) {
				t.Fatal(workers, i)
			}
		}
	}
}

// P4, T12: calls beside one another, and an iterator ranged over by several at once, tell the same.
func TestP4CallsBesideOneAnother(t *testing.T) {
	frames := row(5)
	want := pairsOf(frames, plain)
	record, h, list := shown(t)
	src := view.Of(spoilt(record, list, 1, 5))
	f, r, e := view.Whole(src, samples(h.Shape))
	one := answer{f, r, e}
	it := pool.Each(slices.Values(frames), plain, 3)
	var hands sync.WaitGroup
	for i := range 8 {
		hands.Go(func() {
			for range 4 {
				k := 0
				for x, e := range it {
					if !want[k].is(x, e) {
						t.Error("another pair")
					}
					k++
				}
				if x, e := pool.Encode(frames[i%5], plain, 1+2*i); !want[i%5].is(x, e) {
					t.Error("another record")
				}
				if !wholeOf(src, samples(h.Shape), 1+2*i).is(one) {
					t.Error("another frame")
				}
			}
		})
	}
	hands.Wait()
}
