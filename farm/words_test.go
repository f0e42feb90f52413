package farm_test

import (
	"bytes"
	"math"
	"slices"
	"testing"

	"dailies/api"
	"dailies/farm"
	"dailies/picture"
)

// chance tells numbers that look as if by chance, the same ones each time.
type chance uint64

func (c *chance) below(n int) int {
	*c = *c*6364136223846793005 + 1442695040888963407
	return int(uint64(*c)>>33) % n
}

// odd are numbers that are hardly any worker, lease or job.
func odd() []int {
	return []int{math.MinInt, math.MinInt + 1, math.MinInt32, -1 << 32, -2, 1001, 1<<16 + 1, 1 << 31, 1 << 32, 1<<32 + 1, math.MaxInt - 1, math.MaxInt}
}

func count(s api.Shape) int {
	if s.Alpha {
		return 4
	}
	return 3
}

// wide is how many samples a row of a plane has.
func wide(s api.Shape, p int) int {
	if p == api.Blue || p == api.Red {
		return (s.Width + 1) / 2
	}
	return s.Width
}

// frameOf has samples that are told by their plane and place.
func frameOf(s api.Shape, sample func(p, x, y int) int) api.Frame {
	f := api.Frame{Shape: s}
	for p := range count(s) {
		list := make([]uint16, 0, s.Width*s.Height)
		for y := range s.Height {
			for x := range wide(s, p) {
				list = append(list, uint16(min(max(sample(p, x, y), 0), 1<<s.Depth-1)))
			}
		}
		f.Planes = append(f.Planes, list)
	}
	return f
}

func flat(s api.Shape, v int) api.Frame { return frameOf(s, func(p, x, y int) int { return v }) }

func ramp(s api.Shape) api.Frame {
	return frameOf(s, func(p, x, y int) int { return (3*x + 7*y + p) % (1 << s.Depth) })
}

func noise(s api.Shape, c *chance) api.Frame {
	return frameOf(s, func(p, x, y int) int { return c.below(1 << s.Depth) })
}

// small is a shape of few samples; with it goes the configuration plain.
func small() api.Shape { return api.Shape{Width: 4, Height: 2, Depth: 10} }

func plain() api.Config { return api.Config{SliceW: 16, SliceH: 16, Ladder: []api.Rung{{}}} }

// row are so many frames, no two of which are the same.
func row(n int) []api.Frame {
	list := make([]api.Frame, n)
	for i := range list {
		list[i] = flat(small(), 5)
		list[i].Planes[0][0], list[i].Planes[0][7] = uint16(i%1024), uint16(i/1024*9)
	}
	return list
}

// tight is a configuration of two rungs and a cap, with three frames: the first one keeps to the cap by the first rung, the second one by the second, the third one by none.
func tight(t *testing.T) (api.Config, []api.Frame) {
	t.Helper()
	c := chance(7)
	s := api.Shape{Width: 20, Height: 18, Depth: 10}
	k := api.Config{SliceW: 16, SliceH: 16, Ladder: []api.Rung{{}, {9, 9, 9}}, Parity: 1}
	rough := frameOf(s, func(p, x, y int) int { return 500 + c.below(12) })
	sorts := []api.Frame{flat(s, 9), rough, noise(s, &c)}
	x, e := picture.At(rough, k, 1)
	if e != api.OK {
		t.Fatal(e)
	}
	k.Cap = len(x.Bytes)
	for i, f := range sorts {
		x, e := picture.Encode(f, k)
		if i < 2 && (e != api.OK || x.Step != i) || i == 2 && e != api.ErrCap {
			t.Fatal("a frame of another sort", i, x.Step, e)
		}
	}
	return k, sorts
}

// spare is a list with room behind it that is written full.
func spare[T any](items []T, mark T) []T {
	return append(slices.Clone(items), slices.Repeat([]T{mark}, 5)...)[:len(items)]
}

// flip writes over a list, and over its spare room.
func flip[T byte | uint16 | int](items []T) {
	items = items[:cap(items)]
	for i := range items {
		items[i] = ^items[i]
	}
}

func sameCoded(a, b api.Coded) bool {
	return bytes.Equal(a.Bytes, b.Bytes) && a.Step == b.Step && a.Rung == b.Rung
}

// answer is what picture.Encode tells of a frame.
type answer struct {
	coded api.Coded
	errno api.Errno
}

func (a answer) is(x api.Coded, e api.Errno) bool { return a.errno == e && sameCoded(a.coded, x) }

// byOneHand is what picture.Encode tells of each frame.
func byOneHand(frames []api.Frame, c api.Config) []answer {
	list := make([]answer, len(frames))
	for i, f := range frames {
		x, e := picture.Encode(f, c)
		list[i] = answer{x, e}
	}
	return list
}

// records are what Result tells, if the jobs of these numbers alone came to nothing; what no cap takes comes to nothing anyhow.
func records(list []answer, without ...int) []api.Coded {
	var out []api.Coded
	for i, a := range list {
		if slices.Contains(without, i) {
			a = answer{}
		}
		out = append(out, a.coded)
	}
	return out
}

// made is a farm, which must not be refused.
func made(t *testing.T, frames []api.Frame, c api.Config, workers, lease int) *farm.Farm {
	t.Helper()
	f, e := farm.New(frames, c, workers, lease)
	if f == nil || e != api.OK {
		t.Fatal(f, e)
	}
	return f
}

// must says that an error is the one that is asked for.
func must(t *testing.T, got, want api.Errno) {
	t.Helper()
	if got != want {
		t.Fatalf("%v, not %v", got, want)
	}
}

// takes says that a worker gets this job.
func takes(t *testing.T, f *farm.Farm, worker, job int) {
	t.Helper()
	if k, e := f.Take(worker); k != job || e != api.OK {
		t.Fatalf("worker %d takes %d (%v), not %d", worker, k, e, job)
	}
}

// takesNone says that a worker gets none, and why.
func takesNone(t *testing.T, f *farm.Farm, worker int, want api.Errno) {
	t.Helper()
	if k, e := f.Take(worker); k != 0 || e != want {
		t.Fatalf("worker %d takes %d (%v): not %v", worker, k, e, want)
	}
}

// delivers says what Deliver tells.
func delivers(t *testing.T, f *farm.Farm, worker int, want answer) {
	t.Helper()
	if x, e := f.Deliver(worker); !want.is(x, e) {
		t.Fatalf("worker %d delivers %d bytes, step %d, %v (%v): not %d, %d (%v)", worker, len(x.Bytes), x.Step, x.Rung, e, len(want.coded.Bytes), want.coded.Step, want.errno)
	}
}

// ticks says which workers lose theirs.
func ticks(t *testing.T, f *farm.Farm, lost ...int) {
	t.Helper()
	if list := f.Tick(); !slices.Equal(list, lost) {
		t.Fatalf("%v lost theirs, not %v", list, lost)
	}
}

// stands says how a job stands.
func stands(t *testing.T, f *farm.Farm, job int, state api.JobState, tries int) {
	t.Helper()
	if s, n, e := f.State(job); s != state || n != tries || e != api.OK {
		t.Fatalf("job %d: %v, %d tries (%v), not %v, %d", job, s, n, e, state, tries)
	}
}

// results says what Result tells.
func results(t *testing.T, f *farm.Farm, want []api.Coded) {
	t.Helper()
	if list, e := f.Result(); e != api.OK || !slices.EqualFunc(list, want, sameCoded) {
		t.Fatalf("%d records (%v): not as asked for", len(list), e)
	}
}

// isOpen says that there is no result yet.
func isOpen(t *testing.T, f *farm.Farm) {
	t.Helper()
	if list, e := f.Result(); len(list) != 0 || e != api.ErrFarmOpen {
		t.Fatalf("%d records (%v) of a farm that is open", len(list), e)
	}
}
