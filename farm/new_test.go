package farm_test

import (
	"slices"
	"testing"

	"dailies/api"
	"dailies/farm"
)

// refusesNew says what New answers; Render answers the same, but for what is wrong with a lease.
func refusesNew(t *testing.T, frames []api.Frame, c api.Config, workers, lease int, want api.Errno) {
	t.Helper()
	if f, e := farm.New(frames, c, workers, lease); f != nil || e != want {
		t.Fatalf("New of %d frames, %d workers, lease %d: %v, not %v", len(frames), workers, lease, e, want)
	}
	if lease < 1 || lease > 100 {
		return
	}
	for _, fails := range [][]int{nil, {5}, {0, 1, 2}} {
		if list, e := farm.Render(frames, c, workers, fails); len(list) != 0 || e != want {
			t.Fatalf("Render of %d frames, %d workers: %d records, %v, not %v", len(frames), workers, len(list), e, want)
		}
	}
}

// New, Render: there are 1 to 1000 frames.
func TestHowManyFrames(t *testing.T) {
	many := row(1002)
	for _, n := range []int{0, 1001, 1002} {
		refusesNew(t, many[:n], plain(), 1, 1, api.ErrFarmJobs)
		refusesNew(t, many[:n], plain(), 16, 100, api.ErrFarmJobs)
	}
	refusesNew(t, nil, plain(), 1, 1, api.ErrFarmJobs)
	for _, n := range []int{1, 2, 999, 1000} {
		f := made(t, many[:n], plain(), 1, 1)
		stands(t, f, n-1, api.Waiting, 0)
		if _, _, e := f.State(n); e != api.ErrArg {
			t.Fatal(n, e)
		}
		list, e := farm.Render(many[:n], plain(), 16, nil)
		if e != api.OK || !slices.EqualFunc(list, records(byOneHand(many[:n], plain())), sameCoded) {
			t.Fatal(n, len(list), e)
		}
	}
}

// New, Render: there are 1 to 16 workers.
func TestHowManyWorkers(t *testing.T) {
	frames := row(17)
	for _, workers := range append(odd(), -1, 0, 17, 18, -16) {
		refusesNew(t, frames, plain(), workers, 1, api.ErrFarmWorker)
	}
	for workers := 1; workers <= 16; workers++ {
		f := made(t, frames, plain(), workers, 3)
		for worker := range workers {
			takes(t, f, worker, worker)
		}
		takesNone(t, f, workers, api.ErrFarmWorker)
		takesNone(t, f, -1, api.ErrFarmWorker)
	}
}

// New: a lease is 1 to 100 ticks.
func TestHowLongALease(t *testing.T) {
	for _, lease := range append(odd(), -1, 0, 101, 102, -100) {
		refusesNew(t, row(1), plain(), 1, lease, api.ErrArg)
	}
	for lease := 1; lease <= 100; lease++ {
		made(t, row(1), plain(), 1, lease)
	}
}

// wrongFrames may not be, each by another error of plane's.
func wrongFrames() map[api.Errno]api.Frame {
	size, sample := flat(small(), 3), flat(small(), 3)
	size.Planes[2] = size.Planes[2][1:]
	sample.Planes[1][3] = 1024
	return map[api.Errno]api.Frame{
		api.ErrPlaneShape:  {},
		api.ErrPlanePlanes: {Shape: small(), Planes: flat(small(), 3).Planes[:2]},
		api.ErrPlaneSize:   size,
		api.ErrPlaneSample: sample,
	}
}

// wrongConfigs may not be for small.
func wrongConfigs() []api.Config {
	var list []api.Config
	for _, change := range []func(c *api.Config){
		func(c *api.Config) { *c = api.Config{} },
		func(c *api.Config) { c.SliceW = 17 },
		func(c *api.Config) { c.SliceW = 14 },
		func(c *api.Config) { c.SliceH = 4097 },
		func(c *api.Config) { c.Ladder = nil },
		func(c *api.Config) { c.Ladder = slices.Repeat(c.Ladder, 17) },
		func(c *api.Config) { c.Ladder = []api.Rung{{}, {0, 0, 0, 1}} },
		func(c *api.Config) { c.Ladder = []api.Rung{{64}} },
		func(c *api.Config) { c.Ladder = []api.Rung{{-1}} },
		func(c *api.Config) { c.Cap = -1 },
		func(c *api.Config) { c.Parity = 17 },
		func(c *api.Config) { c.Parity = -1 },
	} {
		c := plain()
		change(&c)
		list = append(list, c)
	}
	return list
}

// New, Render: a frame that may not be, wherever it stands among good ones, and a configuration that may not be.
func TestFramesAndConfigurations(t *testing.T) {
	for want, wrong := range wrongFrames() {
		for at := range 4 {
			frames := row(4)
			frames[at] = wrong
			refusesNew(t, frames, plain(), 2, 2, want)
		}
	}
	for _, c := range wrongConfigs() {
		refusesNew(t, row(3), c, 2, 2, api.ErrPictureConfig)
	}
}

// New, Render: the error is that of the first frame for which there is one, of a frame its own ahead of the configuration's.
func TestTheFirstFramesError(t *testing.T) {
	c := plain()
	c.Ladder = []api.Rung{{0, 0, 0, 5}}
	with := small()
	with.Alpha = true
	good, bare := flat(with, 3), flat(small(), 3) // the configuration may be for the one, not for the other
	wrong := wrongFrames()
	for _, x := range []struct {
		frames []api.Frame
		want   api.Errno
	}{
		{[]api.Frame{good, bare}, api.ErrPictureConfig},
		{[]api.Frame{bare, good}, api.ErrPictureConfig},
		{[]api.Frame{good, good, bare, wrong[api.ErrPlaneSize]}, api.ErrPictureConfig},
		{[]api.Frame{good, wrong[api.ErrPlaneSize], bare}, api.ErrPlaneSize},
		{[]api.Frame{wrong[api.ErrPlaneSample], wrong[api.ErrPlaneShape]}, api.ErrPlaneSample},
		{[]api.Frame{good, wrong[api.ErrPlaneShape], wrong[api.ErrPlaneSample]}, api.ErrPlaneShape},
		{[]api.Frame{good, wrong[api.ErrPlanePlanes], wrong[api.ErrPlaneShape], bare}, api.ErrPlanePlanes},
	} {
		refusesNew(t, x.frames, c, 2, 2, x.want)
	}
	made(t, []api.Frame{good, good}, c, 2, 2)
	// More than 200 slices have no parity: that hangs on the shape, too.
	c = plain()
	c.Parity = 1
	long := flat(api.Shape{Width: 16 * 201, Height: 1, Depth: 10}, 3)
	refusesNew(t, []api.Frame{bare, long, wrong[api.ErrPlaneSize]}, c, 1, 1, api.ErrPictureConfig)
	made(t, []api.Frame{bare, flat(api.Shape{Width: 16 * 200, Height: 1, Depth: 10}, 3)}, c, 1, 1)
}

// P2: of several errors of New the one that is named first.
func TestP2TheFirstErrorOfNew(t *testing.T) {
	wrong := wrongFrames()[api.ErrPlaneSize]
	for _, frames := range [][]api.Frame{nil, slices.Repeat([]api.Frame{wrong}, 1001)} {
		for _, workers := range []int{0, 1, 17} {
			for _, lease := range []int{0, 1, 101} {
				refusesNew(t, frames, api.Config{}, workers, lease, api.ErrFarmJobs)
			}
		}
	}
	for _, frames := range [][]api.Frame{row(1), {wrong}, slices.Repeat([]api.Frame{wrong}, 1000)} {
		for _, workers := range []int{-1, 0, 17} {
			for _, lease := range []int{0, 1, 101} {
				refusesNew(t, frames, api.Config{}, workers, lease, api.ErrFarmWorker)
			}
		}
		for _, lease := range []int{-1, 0, 101} {
			refusesNew(t, frames, api.Config{}, 1, lease, api.ErrArg)
		}
	}
	refusesNew(t, []api.Frame{wrong}, api.Config{}, 1, 1, api.ErrPlaneSize)
}

// New: all jobs are Waiting, with no tries, and no worker has one.
func TestAFarmBegins(t *testing.T) {
	f := made(t, row(5), plain(), 3, 2)
	for job := range 5 {
		stands(t, f, job, api.Waiting, 0)
	}
	isOpen(t, f)
	for worker := range 3 {
		must(t, f.Beat(worker), api.ErrFarmIdle)
		must(t, f.Fail(worker), api.ErrFarmIdle)
		delivers(t, f, worker, answer{errno: api.ErrFarmIdle})
	}
	ticks(t, f)
	for worker := range 3 {
		takes(t, f, worker, worker)
	}
}
