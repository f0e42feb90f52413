package pool_test

import (
	"runtime"
	"slices"
	"testing"

	"dailies/api"
	"dailies/picture"
	"dailies/pool"
)

// row is so many frames, no two of them alike, of unlike shapes.
func row(n int) []api.Frame {
	c := chance(8)
	var list []api.Frame
	for i := range n {
		s := small
		s.Width += 9 * (i % 3)
		switch i % 3 {
		case 0:
			list = append(list, mixed(s, &c))
		case 1:
			list = append(list, flat(s, 7*i))
		default:
			list = append(list, noise(s, &c))
		}
	}
	return list
}

// allOf is what picture tells of one frame behind the other, by one hand.
func allOf(frames []api.Frame, c api.Config) ([]api.Coded, api.Errno) {
	var list []api.Coded
	for _, f := range frames {
		x, e := picture.Encode(f, c)
		if e != api.OK {
			return nil, e
		}
		list = append(list, x)
	}
	return list, api.OK
}

func checkAll(t *testing.T, frames []api.Frame, c api.Config, workers int) ([]api.Coded, api.Errno) {
	t.Helper()
	want, errno := allOf(frames, c)
	list, e := pool.All(frames, c, workers)
	if !slices.EqualFunc(list, want, sameCoded) || e != errno {
		t.Fatalf("%d frames by %d: %d, %v; want %d, %v", len(frames), workers, len(list), e, len(want), errno)
	}
	return list, e
}

// L3: the workers are asked first: of no frames, too, and of such as may not be.
func TestL3Workers(t *testing.T) {
	for _, frames := range [][]api.Frame{nil, {}, row(1), row(3), {{}}, {row(1)[0], {}}} {
		for _, c := range append(wrongConfigs(), plain) {
			for _, workers := range wrongWorkers() {
				if list, e := pool.All(frames, c, workers); len(list) != 0 || e != api.ErrPoolWorkers {
					t.Fatal(len(frames), workers, len(list), e)
				}
			}
		}
	}
}

// L3, P14.1: no frames, one, and as many as there are workers, one less and one more.
func TestP14_1AllIsPictures(t *testing.T) {
	frames := row(20)
	for _, workers := range rightWorkers() {
		for _, n := range []int{0, 1, 2, workers - 1, workers, workers + 1, 20} {
			if list, e := checkAll(t, frames[:n], plain, workers); len(list) != n || e != api.OK {
				t.Fatal(workers, n, len(list), e)
			}
		}
		if list, e := pool.All(nil, plain, workers); len(list) != 0 || e != api.OK {
			t.Error(workers, list, e)
		}
	}
	for _, w := range ways() {
		checkAll(t, []api.Frame{w.frame, w.frame}, w.config, 2)
	}
}

// Of no frames no configuration is wrong: nobody is coded by it.
func TestAllOfNothing(t *testing.T) {
	for _, c := range append(wrongConfigs(), plain) {
		for _, frames := range [][]api.Frame{nil, {}} {
			if list, e := pool.All(frames, c, 3); len(list) != 0 || e != api.OK {
				t.Error(c, list, e)
			}
		}
	}
}

// L3: of frames that may not be the first one's error is told, whichever they are, and whatever each takes.
func TestL3TheFirstError(t *testing.T) {
	wrong := wrongFrames()
	kinds := []api.Errno{api.ErrPlaneShape, api.ErrPlanePlanes, api.ErrPlaneSize, api.ErrPlaneSample}
	told := map[api.Errno]int{}
	for i := range 7 {
		for j := range 7 {
			frames := row(7)
			frames[i] = wrong[kinds[i%4]]
			frames[j] = wrong[kinds[j%4]]
			want := kinds[min(i, j)%4]
			for _, workers := range []int{1, 2, 3, 16} {
				list, e := checkAll(t, frames, plain, workers)
				if len(list) != 0 || e != want {
					t.Fatal(i, j, workers, e)
				}
				told[e]++
			}
		}
	}
	if len(told) != 4 {
		t.Error(told)
	}
}

// ErrCap comes only behind all rungs: a later frame is refused long before, and must wait.
func TestL3TheCapAheadOfAFrameThatIsNone(t *testing.T) {
	c := chance(9)
	s := api.Shape{Width: 128, Height: 96, Depth: 10}
	tight := api.Config{SliceW: 16, SliceH: 16, Ladder: slices.Repeat([]api.Rung{{}}, 6), Cap: 4000}
	good, much := flat(s, 5), noise(s, &c)
	for _, x := range []struct {
		frames []api.Frame
		want   api.Errno
	}{
		{[]api.Frame{good, good, good}, api.OK},
		{[]api.Frame{good, much, {}}, api.ErrCap},
		{[]api.Frame{much, {}, good, {}}, api.ErrCap},
		{[]api.Frame{good, {}, much}, api.ErrPlaneShape},
		{[]api.Frame{{}, much}, api.ErrPlaneShape},
		{[]api.Frame{good, good, good, much}, api.ErrCap},
	} {
		for _, workers := range []int{1, 2, 4, 16} {
			if _, e := checkAll(t, x.frames, tight, workers); e != x.want {
				t.Error(workers, e, x.want)
			}
		}
	}
	// The configuration may be for some of the shapes only: there are 201 slices.
	many := flat(api.Shape{Width: 48, Height: 67 * 16, Depth: 10}, 1)
	for _, workers := range []int{1, 2, 16} {
		if _, e := checkAll(t, []api.Frame{row(1)[0], many, {}}, plain, workers); e != api.ErrPictureConfig {
			t.Error(workers, e)
		}
		for _, k := range wrongConfigs() {
			if _, e := checkAll(t, row(2), k, workers); e != api.ErrPictureConfig {
				t.Error(workers, k, e)
			}
			if _, e := checkAll(t, []api.Frame{{}, row(1)[0]}, k, workers); e != api.ErrPlaneShape {
				t.Error(workers, k, e)
			}
		}
	}
}

// The chapter's examples.
func TestAllExamples(t *testing.T) {
	if list, e := pool.All(nil, plain, 3); len(list) != 0 || e != api.OK {
		t.Error(list, e)
	}
	wrong := wrongFrames()
	frames := []api.Frame{flat(small, 1), wrong[api.ErrPlaneSample], wrong[api.ErrPlaneSize], flat(small, 2)}
	for _, workers := range rightWorkers() {
		if list, e := pool.All(frames, plain, workers); len(list) != 0 || e != api.ErrPlaneSample {
			t.Error(workers, list, e)
		}
	}
}

// When it has answered, all goroutines have ended, also where an error comes ahead of frames that take long.
func TestAllEnds(t *testing.T) {
	before := runtime.NumGoroutine()
	c := chance(4)
	long := noise(api.Shape{Width: 224, Height: 208, Depth: 10}, &c)
	for _, workers := range []int{1, 2, 5, 16, 0, 17} {
		for _, frames := range [][]api.Frame{nil, row(1), row(18), {{}, long, long, long}, {row(1)[0], {}, long, long}} {
			pool.All(frames, plain, workers)
			ended(t, before)
		}
	}
}
