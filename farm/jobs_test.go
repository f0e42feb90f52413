package farm_test

import (
	"testing"

	"dailies/api"
)

// Example 1.
func TestExample1(t *testing.T) {
	frames := row(2)
	want := byOneHand(frames, plain())
	f := made(t, frames, plain(), 1, 2)
	takes(t, f, 0, 0)
	takesNone(t, f, 0, api.ErrFarmBusy)
	takesNone(t, f, 1, api.ErrFarmWorker)
	ticks(t, f)
	ticks(t, f, 0)
	stands(t, f, 0, api.Waiting, 1)
	takes(t, f, 0, 0)
	delivers(t, f, 0, want[0])
	stands(t, f, 0, api.Ready, 2)
	isOpen(t, f)
}

// Example 2.
func TestExample2(t *testing.T) {
	f := made(t, row(1), plain(), 1, 1)
	for range 5 {
		takes(t, f, 0, 0)
		must(t, f.Fail(0), api.OK)
	}
	stands(t, f, 0, api.Failed, 5)
	results(t, f, []api.Coded{{}})
	takesNone(t, f, 0, api.ErrFarmNone)
}

// Take, Beat, Deliver, Fail: that there is no such worker is told ahead of all else, and changes nothing.
func TestNoSuchWorker(t *testing.T) {
	frames := row(3)
	want := byOneHand(frames, plain())
	for _, workers := range []int{1, 2, 16} {
		f := made(t, frames, plain(), workers, 1)
		refused := func() {
			t.Helper()
			for _, worker := range append(odd(), -1, workers, workers+1) {
				takesNone(t, f, worker, api.ErrFarmWorker)
				must(t, f.Beat(worker), api.ErrFarmWorker)
				must(t, f.Fail(worker), api.ErrFarmWorker)
				delivers(t, f, worker, answer{errno: api.ErrFarmWorker})
			}
		}
		refused()
		takes(t, f, workers-1, 0)
		refused()
		stands(t, f, 0, api.Running, 1)
		stands(t, f, 1, api.Waiting, 0)
		delivers(t, f, workers-1, want[0])
		for job := 1; job < 3; job++ {
			takes(t, f, 0, job)
			delivers(t, f, 0, want[job])
		}
		refused()
		results(t, f, records(want))
	}
}

// Take: a worker that has a job gets no other one, whether any waits or not, and its own is as it was.
func TestTakeOfABusyWorker(t *testing.T) {
	f := made(t, row(2), plain(), 3, 2)
	takes(t, f, 1, 0)
	takesNone(t, f, 1, api.ErrFarmBusy)
	stands(t, f, 0, api.Running, 1)
	stands(t, f, 1, api.Waiting, 0)
	takes(t, f, 2, 1)
	takesNone(t, f, 2, api.ErrFarmBusy)
	takesNone(t, f, 0, api.ErrFarmNone)
	// It was no sign of life either.
	ticks(t, f)
	takesNone(t, f, 1, api.ErrFarmBusy)
	must(t, f.Beat(2), api.OK)
	ticks(t, f, 1)
}

// Take: the job with the least number of those that wait, also if it was given back behind others.
func TestTakeTheLeast(t *testing.T) {
	frames := row(6)
	want := byOneHand(frames, plain())
	f := made(t, frames, plain(), 4, 9)
	for worker := range 4 {
		takes(t, f, worker, worker)
	}
	must(t, f.Fail(2), api.OK)
	must(t, f.Fail(1), api.OK)
	must(t, f.Fail(3), api.OK)
	takes(t, f, 3, 1)
	delivers(t, f, 0, want[0])
	takes(t, f, 0, 2)
	takes(t, f, 1, 3)
	takes(t, f, 2, 4)
	for job, tries := range []int{1, 2, 2, 2, 1, 0} {
		state := api.Running
		if job == 0 {
			state = api.Ready
		} else if job == 5 {
			state = api.Waiting
		}
		stands(t, f, job, state, tries)
	}
}

// Take: none waits, since all are Running, Ready or Failed; a refused Take is no try.
func TestTakeOfNone(t *testing.T) {
	frames := row(3)
	want := byOneHand(frames, plain())
	f := made(t, frames, plain(), 4, 9)
	for worker := range 3 {
		takes(t, f, worker, worker)
	}
	for range 9 {
		takesNone(t, f, 3, api.ErrFarmNone)
	}
	delivers(t, f, 1, want[1])
	takesNone(t, f, 1, api.ErrFarmNone)
	for try := range 4 {
		must(t, f.Fail(0), api.OK)
		stands(t, f, 0, api.Waiting, try+1)
		takes(t, f, 0, 0)
	}
	must(t, f.Fail(0), api.OK)
	stands(t, f, 0, api.Failed, 5)
	takesNone(t, f, 0, api.ErrFarmNone)
	stands(t, f, 2, api.Running, 1)
	isOpen(t, f)
	delivers(t, f, 2, want[2])
	takesNone(t, f, 2, api.ErrFarmNone)
	results(t, f, records(want, 0))
}

// Beat, Deliver, Fail: a worker that has no job: at first, and behind what took it from it; nothing is changed.
func TestIdle(t *testing.T) {
	frames := row(4)
	want := byOneHand(frames, plain())
	f := made(t, frames, plain(), 2, 1)
	idle := func() {
		t.Helper()
		must(t, f.Beat(0), api.ErrFarmIdle)
		must(t, f.Fail(0), api.ErrFarmIdle)
		delivers(t, f, 0, answer{errno: api.ErrFarmIdle})
	}
	idle()
	takes(t, f, 0, 0)
	must(t, f.Fail(0), api.OK)
	idle()
	stands(t, f, 0, api.Waiting, 1)
	takes(t, f, 0, 0)
	ticks(t, f, 0)
	idle()
	stands(t, f, 0, api.Waiting, 2)
	takes(t, f, 0, 0)
	delivers(t, f, 0, want[0])
	idle()
	stands(t, f, 0, api.Ready, 3)
	// What the other one has is not its own.
	takes(t, f, 1, 1)
	idle()
	stands(t, f, 1, api.Running, 1)
	ticks(t, f, 1)
}

// A job is given back with 4 tries, and waits; with 5, and is Failed: by Fail and by Tick, and by both in turn.
func TestGivenBack(t *testing.T) {
	for ways := range 32 {
		frames := row(2)
		f := made(t, frames, plain(), 2, 1)
		for try := range 5 {
			takes(t, f, try%2, 0)
			stands(t, f, 0, api.Running, try+1)
			if ways>>try&1 == 0 {
				must(t, f.Fail(try%2), api.OK)
			} else {
				ticks(t, f, try%2)
			}
			must(t, f.Beat(try%2), api.ErrFarmIdle)
			if try < 4 {
				stands(t, f, 0, api.Waiting, try+1)
			}
		}
		stands(t, f, 0, api.Failed, 5)
		stands(t, f, 1, api.Waiting, 0)
		isOpen(t, f)
		takes(t, f, 0, 1)
		takesNone(t, f, 1, api.ErrFarmNone)
		isOpen(t, f)
		delivers(t, f, 0, byOneHand(frames, plain())[1])
		ticks(t, f)
		stands(t, f, 0, api.Failed, 5)
		results(t, f, records(byOneHand(frames, plain()), 0))
	}
}

// A job is delivered in each of its five tries.
func TestDeliveredInEachTry(t *testing.T) {
	frames := row(1)
	want := byOneHand(frames, plain())
	for before := range 5 {
		f := made(t, frames, plain(), 1, 1)
		for range before {
			takes(t, f, 0, 0)
			must(t, f.Fail(0), api.OK)
		}
		takes(t, f, 0, 0)
		delivers(t, f, 0, want[0])
		stands(t, f, 0, api.Ready, before+1)
		results(t, f, records(want))
	}
}

// Deliver: picture.Encode's record, with its step and rung; of a frame that no rung keeps to ErrCap, and the job is Failed, whatever tries it has.
func TestDeliverByALadder(t *testing.T) {
	c, frames := tight(t)
	want := byOneHand(frames, c)
	for before := range 5 {
		f := made(t, frames, c, 2, 5)
		for job := range frames {
			for range before {
				takes(t, f, 0, job)
				must(t, f.Fail(0), api.OK)
			}
			takes(t, f, 1, job)
			delivers(t, f, 1, want[job])
			must(t, f.Beat(1), api.ErrFarmIdle)
			state := api.Ready
			if want[job].errno == api.ErrCap {
				state = api.Failed
			}
			stands(t, f, job, state, before+1)
		}
		takesNone(t, f, 0, api.ErrFarmNone)
		results(t, f, records(want))
		results(t, f, records(want))
	}
}

// State: a job that is not there.
func TestNoSuchJob(t *testing.T) {
	for _, n := range []int{1, 3, 1000} {
		f := made(t, row(n), plain(), 1, 1)
		for _, job := range append(odd(), -1, n, n+1) {
			if s, tries, e := f.State(job); s != 0 || tries != 0 || e != api.ErrArg {
				t.Fatal(n, job, s, tries, e)
			}
		}
		stands(t, f, 0, api.Waiting, 0)
		stands(t, f, n-1, api.Waiting, 0)
	}
}

// Result: with a job Waiting, with one Running, and with Ready and Failed ones alone; asking changes nothing.
func TestResult(t *testing.T) {
	c, frames := tight(t)
	want := byOneHand(frames, c)
	f := made(t, frames, c, 3, 1)
	isOpen(t, f)
	for worker := range 3 {
		takes(t, f, worker, worker)
		isOpen(t, f)
	}
	delivers(t, f, 2, want[2])
	isOpen(t, f)
	delivers(t, f, 0, want[0])
	isOpen(t, f)
	ticks(t, f, 1)
	isOpen(t, f)
	for range 4 {
		takes(t, f, 0, 1)
		isOpen(t, f)
		must(t, f.Fail(0), api.OK)
	}
	for range 3 {
		results(t, f, records(want, 1))
	}
	stands(t, f, 0, api.Ready, 1)
	stands(t, f, 1, api.Failed, 5)
	stands(t, f, 2, api.Failed, 1)
}

// A farm of all that may be: 1000 jobs, 16 workers.
func TestAsManyAsMayBe(t *testing.T) {
	frames := row(1000)
	want := byOneHand(frames, plain())
	f := made(t, frames, plain(), 16, 100)
	for job := range frames {
		takes(t, f, job%16, job)
		if job%16 == 15 {
			for worker := range 16 {
				delivers(t, f, worker, want[job-15+worker])
			}
		}
	}
	isOpen(t, f)
	for worker := range 8 {
		delivers(t, f, worker, want[992+worker])
	}
	results(t, f, records(want))
}

// Deliver and Result code what New was given, whatever the frame's kind.
func TestFramesOfAllKinds(t *testing.T) {
	c := chance(211)
	k := api.Config{SliceW: 16, SliceH: 18, Ladder: []api.Rung{{}, {1, 0, 2}, {5, 60, 7}}, Parity: 2, Cap: 700}
	var frames []api.Frame
	for _, s := range []api.Shape{{Width: 1, Height: 1, Depth: 10}, {Width: 33, Height: 19, Depth: 12}, {Width: 17, Height: 40, Depth: 10, Alpha: true}, {Width: 16, Height: 18, Depth: 12, Alpha: true}} {
		frames = append(frames, flat(s, 700), ramp(s), noise(s, &c))
	}
	want := byOneHand(frames, k)
	f := made(t, frames, k, 1, 1)
	failed := 0
	for job := range frames {
		takes(t, f, 0, job)
		delivers(t, f, 0, want[job])
		if want[job].errno == api.ErrCap {
			failed++
		}
	}
	if failed == 0 || failed == len(frames) {
		t.Fatal(failed, "failed")
	}
	results(t, f, records(want))
	renders(t, frames, k, 3, nil, records(want))
}
