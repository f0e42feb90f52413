package pool

import (
	"iter"
	"sync"

	"dailies/api"
	"dailies/picture"
	"dailies/plane"
)

// each tells the pairs of all frames, no more than workers of them being under way.
func each(frames iter.Seq[api.Frame], c api.Config, workers int, yield func(api.Coded, api.Errno) bool) {
	q := newQueue(c, workers)
	// However the loops end: the workers end with them.
	defer q.end()
	for f := range frames {
		q.add(f)
		if len(q.waiting) == workers && !yield(q.first()) {
			return
		}
	}
	for len(q.waiting) > 0 {
		if !yield(q.first()) {
			return
		}
	}
}

// queue is frames under way, in their order, and the workers who code them.
type queue struct {
	jobs    chan job
	waiting []<-chan pair // a channel for each frame's pair
	hands   sync.WaitGroup
}

type pair struct {
	coded api.Coded
	errno api.Errno
}

// job is a frame, and where its pair is waited for.
type job struct {
	frame api.Frame
	done  chan<- pair
}

func newQueue(c api.Config, workers int) *queue {
	q := &queue{jobs: make(chan job)}
	for range workers {
		q.hands.Go(func() {
			for j := range q.jobs {
				x, e := picture.Encode(j.frame, c)
				j.done <- pair{x, e}
			}
		})
	}
	return q
}

// add gives a copy of a frame to a worker, of whom there is always one at hand: fewer frames than workers are under way.
func (q *queue) add(f api.Frame) {
	// There is room for the pair, so that no worker waits for a loop that was left.
	done := make(chan pair, 1)
	q.waiting = append(q.waiting, done)
	// What Cut refuses here is just what Encode would refuse first.
	own, e := plane.Cut(f, api.Rect{W: f.Shape.Width, H: f.Shape.Height})
	if e != api.OK {
		done <- pair{errno: e}
		return
	}
	q.jobs <- job{own, done}
}

// first is the pair of the frame that came first, which is under way no longer.
func (q *queue) first() (api.Coded, api.Errno) {
	x := <-q.waiting[0]
	q.waiting = q.waiting[1:]
	return x.coded, x.errno
}

// end lets the workers go, and waits until they have gone.
func (q *queue) end() {
	close(q.jobs)
	q.hands.Wait()
}
