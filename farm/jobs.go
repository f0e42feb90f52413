package farm

import (
	"slices"

	"dailies/api"
	"dailies/picture"
	"dailies/plane"
)

// job is a frame, how it stands, and what was made of it.
type job struct {
	frame api.Frame // nothing, once the job is done: nobody codes it again
	state api.JobState
	tries int
	coded api.Coded
}

// seat is a worker's place: the job that it has, if it is busy, and for how many ticks nothing was heard of that.
type seat struct {
	busy   bool
	job    int
	silent int
}

// check looks whether there may be such a farm.
func check(frames []api.Frame, c api.Config, workers, lease int) api.Errno {
	if len(frames) < 1 || len(frames) > api.MaxJobs {
		return api.ErrFarmJobs
	}
	if workers < 1 || workers > api.MaxWorkers {
		return api.ErrFarmWorker
	}
	if lease < 1 || lease > api.MaxLease {
		return api.ErrArg
	}
	for _, frame := range frames {
		if e := plane.Valid(frame); e != api.OK {
			return e
		}
		if e := picture.Valid(c, frame.Shape); e != api.OK {
			return e
		}
	}
	return api.OK
}

// begin is a farm that was checked; it keeps what it is given.
func begin(frames []api.Frame, c api.Config, workers, lease int) *Farm {
	f := &Farm{config: c, lease: lease, jobs: make([]job, len(frames)), seats: make([]seat, workers)}
	for k, frame := range frames {
		f.jobs[k].frame = frame
	}
	return f
}

// copied is a frame in memory of its own.
func copied(f api.Frame) api.Frame {
	planes := make([][]uint16, len(f.Planes))
	for p, samples := range f.Planes {
		planes[p] = slices.Clone(samples)
	}
	return api.Frame{Shape: f.Shape, Planes: planes}
}

// has tells whether there is such a worker.
func (f *Farm) has(worker int) bool { return worker >= 0 && worker < len(f.seats) }

// atWork looks whether there is such a worker, and it has a job.
func (f *Farm) atWork(worker int) api.Errno {
	if !f.has(worker) {
		return api.ErrFarmWorker
	}
	if !f.seats[worker].busy {
		return api.ErrFarmIdle
	}
	return api.OK
}

// giveBack takes a busy worker's job from it: for another try, as long as there are any left.
func (f *Farm) giveBack(worker int) {
	j := f.leave(worker)
	if j.tries < api.MaxTries {
		j.state = api.Waiting
		return
	}
	f.end(j, api.Failed)
}

// settle takes a busy worker's job as coded, or as refused: a frame that no rung keeps to the cap fails each time.
func (f *Farm) settle(worker int, x api.Coded, e api.Errno) {
	j := f.leave(worker)
	if e != api.OK {
		f.end(j, api.Failed)
		return
	}
	j.coded = x
	f.end(j, api.Ready)
}

// leave is the job that a busy worker had, who has none any more.
func (f *Farm) leave(worker int) *job {
	j := &f.jobs[f.seats[worker].job]
	f.seats[worker] = seat{}
	return j
}

// end lets a job be as it stays.
func (f *Farm) end(j *job, state api.JobState) {
	j.state = state
	j.frame = api.Frame{}
	f.done.Add(1)
}

// open tells whether a job is Waiting or Running.
func (f *Farm) open() bool { return f.done.Load() < int64(len(f.jobs)) }

// records are what was made of the jobs, as the farm has it; of one that is not Ready the empty one.
func (f *Farm) records() []api.Coded {
	list := make([]api.Coded, len(f.jobs))
	for k, j := range f.jobs {
		list[k] = j.coded
	}
	return list
}
