package farm_test

import (
	"testing"

	"dailies/api"
)

// Tick: a job heard of lease - 1 ticks ago stays, one heard of lease ticks ago is given back, and is not lost once more a tick later.
func TestTickAtEveryLease(t *testing.T) {
	for lease := 1; lease <= 100; lease++ {
		f := made(t, row(1), plain(), 1, lease)
		for range 3 {
			ticks(t, f)
		}
		for try := 1; try <= 5; try++ {
			takes(t, f, 0, 0)
			for range lease - 1 {
				ticks(t, f)
			}
			stands(t, f, 0, api.Running, try)
			takesNone(t, f, 0, api.ErrFarmBusy)
			ticks(t, f, 0)
			state := api.Waiting
			if try == 5 {
				state = api.Failed
			}
			stands(t, f, 0, state, try)
			ticks(t, f)
			stands(t, f, 0, state, try)
		}
	}
}

// Beat: the job was heard of now, as often as that is.
func TestBeat(t *testing.T) {
	for _, lease := range []int{1, 2, 3, 7, 100} {
		for after := range lease {
			f := made(t, row(1), plain(), 1, lease)
			takes(t, f, 0, 0)
			for range 5 {
				for range after {
					ticks(t, f)
				}
				must(t, f.Beat(0), api.OK)
			}
			must(t, f.Beat(0), api.OK)
			stands(t, f, 0, api.Running, 1)
			for range lease - 1 {
				ticks(t, f)
			}
			ticks(t, f, 0)
			stands(t, f, 0, api.Waiting, 1)
		}
	}
}

// P21.4: a worker that beats before lease ticks have gone by loses none, however long that goes; one beside it that does not loses its own.
func TestP21_4BeatsKeep(t *testing.T) {
	for _, lease := range []int{2, 5, 100} {
		f := made(t, row(2), plain(), 2, lease)
		takes(t, f, 1, 0)
		takes(t, f, 0, 1)
		for now := 1; now <= 6*lease; now++ {
			if now == lease {
				ticks(t, f, 0)
			} else {
				ticks(t, f)
			}
			if now%(lease-1) == 0 {
				must(t, f.Beat(1), api.OK)
			}
		}
		stands(t, f, 0, api.Running, 1)
		stands(t, f, 1, api.Waiting, 1)
	}
}

// Each job is heard of by itself: taken at other moments, they are lost at other moments; what Beat of one says holds for no other.
func TestHeardOfByItself(t *testing.T) {
	f := made(t, row(4), plain(), 4, 3)
	takes(t, f, 3, 0)
	ticks(t, f)
	takes(t, f, 1, 1)
	ticks(t, f)
	takes(t, f, 2, 2)
	must(t, f.Beat(1), api.OK)
	ticks(t, f, 3)
	takes(t, f, 0, 0)
	ticks(t, f)
	ticks(t, f, 1, 2)
	ticks(t, f, 0)
	ticks(t, f)
	for job, tries := range []int{2, 1, 1, 0} {
		stands(t, f, job, api.Waiting, tries)
	}
}

// Take: a job that is taken anew was heard of then, by whomever, and however long it waited.
func TestTakenAnew(t *testing.T) {
	f := made(t, row(2), plain(), 2, 3)
	takes(t, f, 0, 0)
	ticks(t, f)
	ticks(t, f)
	must(t, f.Fail(0), api.OK)
	takes(t, f, 0, 0) // by the same one
	ticks(t, f)
	ticks(t, f)
	stands(t, f, 0, api.Running, 2)
	must(t, f.Fail(0), api.OK)
	for range 5 {
		ticks(t, f)
	}
	takes(t, f, 1, 0) // by another one
	ticks(t, f)
	ticks(t, f)
	ticks(t, f, 1)
	stands(t, f, 0, api.Waiting, 3)
}

// Tick: several workers lose theirs at once, told rising, whichever took first; what they lost waits, or is Failed, each by its own tries.
func TestSeveralLose(t *testing.T) {
	frames := row(5)
	f := made(t, frames, plain(), 5, 2)
	for range 4 {
		takes(t, f, 0, 0)
		must(t, f.Fail(0), api.OK)
	}
	for job, worker := range []int{4, 2, 0, 3, 1} {
		takes(t, f, worker, job)
	}
	ticks(t, f)
	must(t, f.Beat(3), api.OK)
	ticks(t, f, 0, 1, 2, 4)
	for job, want := range []struct {
		state api.JobState
		tries int
	}{{api.Failed, 5}, {api.Waiting, 1}, {api.Waiting, 1}, {api.Running, 1}, {api.Waiting, 1}} {
		stands(t, f, job, want.state, want.tries)
	}
	takes(t, f, 4, 1)
	takes(t, f, 0, 2)
	ticks(t, f, 3)
	ticks(t, f, 0, 4)
	// All sixteen.
	f = made(t, row(16), plain(), 16, 1)
	for worker := range 16 {
		takes(t, f, 15-worker, worker)
	}
	ticks(t, f, 0, 1, 2, 3, 4, 5, 6, 7, 8, 9, 10, 11, 12, 13, 14, 15)
	ticks(t, f)
}

// A worker whose job was delivered, or refused by ErrCap, loses nothing by Tick.
func TestDoneIsNotLost(t *testing.T) {
	c, frames := tight(t)
	want := byOneHand(frames, c)
	f := made(t, frames, c, 3, 1)
	for worker := range 3 {
		takes(t, f, worker, worker)
		delivers(t, f, worker, want[worker])
	}
	for range 3 {
		ticks(t, f)
	}
	results(t, f, records(want))
}
