package farm

import (
	"sync"

	"dailies/api"
	"dailies/picture"
)

// shift is a farm's workers at their jobs, side by side. The farm is asked by one goroutine alone, which tells each worker what to do, and hears of all of them; so it needs no lock, and which of them is heard of first is not to be seen in what they make.
type shift struct {
	farm   *Farm
	fails  []int
	orders []chan order // one for each worker
	made   chan delivery
	failed chan int // by the worker
	hands  sync.WaitGroup
}

// order is what a worker is told to do.
type order struct {
	frame api.Frame
	fails bool
}

// delivery is what a worker made.
type delivery struct {
	worker int
	coded  api.Coded
	errno  api.Errno
}

// newShift lets the farm's workers begin; they wait to be told.
func newShift(f *Farm, fails []int) *shift {
	s := &shift{farm: f, fails: fails, made: make(chan delivery), failed: make(chan int)}
	for worker := range f.seats {
		orders := make(chan order)
		s.orders = append(s.orders, orders)
		s.hands.Go(func() { s.work(worker, orders, f.config) })
	}
	return s
}

// work is what one worker does until it is told nothing any more.
func (s *shift) work(worker int, orders <-chan order, c api.Config) {
	for o := range orders {
		if o.fails {
			s.failed <- worker
			continue
		}
		x, e := picture.Encode(o.frame, c)
		s.made <- delivery{worker, x, e}
	}
}

// run has all jobs done, and lets the workers go.
func (s *shift) run() {
	for worker := range s.orders {
		s.tell(worker)
	}
	for s.farm.open() {
		select {
		case d := <-s.made:
			s.farm.settle(d.worker, d.coded, d.errno)
			s.tell(d.worker)
		case worker := <-s.failed:
			s.farm.Fail(worker)
			s.tell(worker)
		}
	}
	for _, orders := range s.orders {
		close(orders)
	}
	s.hands.Wait()
}

// tell gives a worker the next job. One who finds none waiting is not told again: a job that is given back later is for the worker who gave it back.
func (s *shift) tell(worker int) {
	k, e := s.farm.Take(worker)
	if e != api.OK {
		return
	}
	j := s.farm.jobs[k]
	s.orders[worker] <- order{frame: j.frame, fails: k < len(s.fails) && j.tries <= s.fails[k]}
}
