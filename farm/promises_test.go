package farm_test

import (
	"slices"
	"testing"

	"dailies/api"
	"dailies/farm"
)

// yard is a farm by the chapter's words: moments are counted from its beginning on, and each job tells who has it.
type yard struct {
	answers        []answer
	workers, lease int
	now            int
	states         []api.JobState
	tries, heard   []int
	who            []int // -1: nobody
}

func yardOf(answers []answer, workers, lease int) *yard {
	n := len(answers)
	return &yard{answers: answers, workers: workers, lease: lease, states: make([]api.JobState, n), tries: make([]int, n), heard: make([]int, n), who: slices.Repeat([]int{-1}, n)}
}

// has is the job that a worker has, or -1.
func (y *yard) has(worker int) int { return slices.Index(y.who, worker) }

func (y *yard) isWorker(worker int) bool { return 0 <= worker && worker < y.workers }

func (y *yard) giveBack(job int) {
	y.who[job] = -1
	y.states[job] = api.Waiting
	if y.tries[job] == 5 {
		y.states[job] = api.Failed
	}
}

func (y *yard) take(worker int) (int, api.Errno) {
	job := slices.Index(y.states, api.Waiting)
	switch {
	case !y.isWorker(worker):
		return 0, api.ErrFarmWorker
	case y.has(worker) >= 0:
		return 0, api.ErrFarmBusy
	case job < 0:
		return 0, api.ErrFarmNone
	}
	y.states[job], y.who[job], y.heard[job] = api.Running, worker, y.now
	y.tries[job]++
	return job, api.OK
}

// held is the job that a worker has, or why it has none.
func (y *yard) held(worker int) (int, api.Errno) {
	if !y.isWorker(worker) {
		return 0, api.ErrFarmWorker
	}
	if y.has(worker) < 0 {
		return 0, api.ErrFarmIdle
	}
	return y.has(worker), api.OK
}

func (y *yard) beat(worker int) api.Errno {
	job, e := y.held(worker)
	if e == api.OK {
		y.heard[job] = y.now
	}
	return e
}

func (y *yard) deliver(worker int) answer {
	job, e := y.held(worker)
	if e != api.OK {
		return answer{errno: e}
	}
	y.who[job], y.states[job] = -1, api.Ready
	if y.answers[job].errno == api.ErrCap {
		y.states[job] = api.Failed
	}
	return y.answers[job]
}

func (y *yard) fail(worker int) api.Errno {
	job, e := y.held(worker)
	if e == api.OK {
		y.giveBack(job)
	}
	return e
}

func (y *yard) tick() []int {
	y.now++
	var lost []int
	for worker := range y.workers {
		if job := y.has(worker); job >= 0 && y.now-y.heard[job] >= y.lease {
			y.giveBack(job)
			lost = append(lost, worker)
		}
	}
	return lost
}

func (y *yard) result() ([]api.Coded, api.Errno) {
	var list []api.Coded
	for job, state := range y.states {
		switch state {
		case api.Ready:
			list = append(list, y.answers[job].coded)
		case api.Failed:
			list = append(list, api.Coded{})
		default:
			return nil, api.ErrFarmOpen
		}
	}
	return list, api.OK
}

// agree says that a farm stands as the chapter's words have it.
func (y *yard) agree(t *testing.T, f *farm.Farm) {
	t.Helper()
	for job := range y.answers {
		stands(t, f, job, y.states[job], y.tries[job])
	}
	list, e := f.Result()
	want, errno := y.result()
	if e != errno || !slices.EqualFunc(list, want, sameCoded) {
		t.Fatalf("Result: %d records (%v), not %d (%v)", len(list), e, len(want), errno)
	}
}

// step does one thing as if by chance, on a farm and by the chapter's words.
func (y *yard) step(t *testing.T, f *farm.Farm, c *chance, delivers int) {
	t.Helper()
	worker := c.below(y.workers+2) - 1
	switch n := c.below(100); {
	case n < 40:
		k, e := f.Take(worker)
		if job, errno := y.take(worker); k != job || e != errno {
			t.Fatalf("Take(%d): %d (%v), not %d (%v)", worker, k, e, job, errno)
		}
	case n < 50:
		must(t, f.Beat(worker), y.beat(worker))
	case n < 60:
		ticks(t, f, y.tick()...)
	case n < 60+delivers:
		x, e := f.Deliver(worker)
		if want := y.deliver(worker); !want.is(x, e) {
			t.Fatalf("Deliver(%d): %d bytes (%v), not %d (%v)", worker, len(x.Bytes), e, len(want.coded.Bytes), want.errno)
		}
	default:
		must(t, f.Fail(worker), y.fail(worker))
	}
	y.agree(t, f)
}

// open tells whether a job is not done.
func (y *yard) open() bool {
	return slices.Contains(y.states, api.Waiting) || slices.Contains(y.states, api.Running)
}

// sortsOf are so many frames of all three sorts, mixed as if by chance.
func sortsOf(sorts []api.Frame, n int, c *chance) []api.Frame {
	var list []api.Frame
	for range n {
		list = append(list, sorts[c.below(len(sorts))])
	}
	return list
}

// P21.1, T12: scripts as if by chance, of all numbers of workers and leases, agree with the chapter's words at every step, up to the end and beyond it.
func TestScripts(t *testing.T) {
	k, sorts := tight(t)
	c := chance(2101)
	ready, failed := 0, 0
	for round := range 300 {
		frames := sortsOf(sorts, 1+c.below(7), &c)
		workers, lease := 1+c.below(16), 1+c.below(6)
		if round%2 == 0 {
			workers = 1 + c.below(3)
		}
		f := made(t, frames, k, workers, lease)
		y := yardOf(byOneHand(frames, k), workers, lease)
		y.agree(t, f)
		delivers := c.below(40)
		for range 40 * len(frames) {
			y.step(t, f, &c, delivers)
		}
		for worker := range workers {
			must(t, f.Fail(worker), y.fail(worker))
		}
		for y.open() {
			job, _ := y.take(0)
			takes(t, f, 0, job)
			x, e := f.Deliver(0)
			if !y.deliver(0).is(x, e) {
				t.Fatal(round, job, e)
			}
		}
		for range 10 {
			y.step(t, f, &c, delivers)
		}
		for job, state := range y.states {
			switch {
			case state == api.Ready:
				ready++
			case y.answers[job].errno == api.OK:
				failed++
			}
		}
	}
	if ready < 100 || failed < 100 {
		t.Error("hardly any job came to an end of each kind", ready, failed)
	}
}

// ledger is what is seen of a farm from without: who was given which job, and what was told of each.
type ledger struct {
	has    []int // by the worker; -1: none
	told   []bool
	capped []bool
	states []api.JobState
	tries  []int
}

// lose says that a worker has none any more.
func (l *ledger) lose(t *testing.T, worker int) int {
	t.Helper()
	job := l.has[worker]
	if job < 0 {
		t.Fatal("worker", worker, "lost a job that it had not")
	}
	l.has[worker] = -1
	return job
}

// look says that the farm stands as P21.2 and P21.3 have it.
func (l *ledger) look(t *testing.T, f *farm.Farm) {
	t.Helper()
	for job := range l.states {
		state, tries, e := f.State(job)
		must(t, e, api.OK)
		if tries < l.tries[job] || tries > 5 {
			t.Fatal("job", job, "has", tries, "tries behind", l.tries[job])
		}
		if was := l.states[job]; (was == api.Ready || was == api.Failed) && (state != was || tries != l.tries[job]) {
			t.Fatal("job", job, "did not stay as it was")
		}
		if running := slices.Contains(l.has, job); running != (state == api.Running) {
			t.Fatal("job", job, "is had:", running, "but it is", state)
		}
		if l.told[job] != (state == api.Ready) {
			t.Fatal("job", job, "was told:", l.told[job], "but it is", state)
		}
		if state == api.Failed && tries != 5 && !l.capped[job] {
			t.Fatal("job", job, "is Failed with", tries, "tries")
		}
		l.states[job], l.tries[job] = state, tries
	}
}

// step does one thing as if by chance, and writes down what is seen of it.
func (l *ledger) step(t *testing.T, f *farm.Farm, c *chance) {
	t.Helper()
	worker := c.below(len(l.has))
	switch c.below(7) {
	case 0, 1, 2:
		job, e := f.Take(worker)
		if e != api.OK {
			return
		}
		if l.has[worker] >= 0 || slices.Contains(l.has, job) {
			t.Fatal("worker", worker, "has", l.has[worker], "and was given", job, "of", l.has)
		}
		l.has[worker] = job
	case 3:
		f.Beat(worker)
	case 4:
		for _, worker := range f.Tick() {
			l.lose(t, worker)
		}
	case 5:
		if f.Fail(worker) == api.OK {
			l.lose(t, worker)
		}
	default:
		x, e := f.Deliver(worker)
		if e == api.OK {
			l.told[l.lose(t, worker)] = true
		}
		if e == api.ErrCap {
			l.capped[l.lose(t, worker)] = true
		}
		if (len(x.Bytes) > 0) != (e == api.OK) {
			t.Fatal(len(x.Bytes), e)
		}
	}
}

// P21.2, P21.3: of whatever script, as far as it is seen from without.
func TestP21_2AndP21_3(t *testing.T) {
	k, sorts := tight(t)
	c := chance(2123)
	for range 200 {
		frames := sortsOf(sorts, 1+c.below(9), &c)
		n, workers := len(frames), 1+c.below(16)
		f := made(t, frames, k, workers, 1+c.below(9))
		l := ledger{has: slices.Repeat([]int{-1}, workers), told: make([]bool, n), capped: make([]bool, n), states: make([]api.JobState, n), tries: make([]int, n)}
		for range 60 * n {
			l.step(t, f, &c)
			l.look(t, f)
		}
	}
}

// P21.4: if each worker that takes a job delivers it, all are done behind as many Takes as there are jobs.
func TestP21_4AsManyTakes(t *testing.T) {
	k, sorts := tight(t)
	c := chance(2144)
	for range 100 {
		frames := sortsOf(sorts, 1+c.below(20), &c)
		workers := 1 + c.below(16)
		f := made(t, frames, k, workers, 100)
		for job := range frames {
			isOpen(t, f)
			worker := c.below(workers)
			takes(t, f, worker, job)
			f.Deliver(worker)
		}
		results(t, f, records(byOneHand(frames, k)))
		for worker := range workers {
			takesNone(t, f, worker, api.ErrFarmNone)
		}
	}
}

// P4: two farms beside one another, their calls in turn as if by chance, know nothing of each other, though they have frames and configuration in common.
func TestTwoFarms(t *testing.T) {
	k, sorts := tight(t)
	c := chance(2104)
	for range 40 {
		frames := sortsOf(sorts, 5, &c)
		var farms []*farm.Farm
		var yards []*yard
		for lease := range 3 {
			farms = append(farms, made(t, frames, k, 2+lease, 1+lease))
			yards = append(yards, yardOf(byOneHand(frames, k), 2+lease, 1+lease))
		}
		for range 300 {
			i := c.below(3)
			yards[i].step(t, farms[i], &c, 20)
			for i, y := range yards {
				y.agree(t, farms[i])
			}
		}
	}
}
