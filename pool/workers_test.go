package pool_test

import (
	"runtime"
	"slices"
	"strings"
	"sync"
	"testing"
	"time"

	"dailies/api"
	"dailies/pool"
	"dailies/view"
)

// atWork is how many goroutines are coding or decoding just now.
func atWork(b []byte) int {
	n := 0
	for _, stack := range strings.Split(string(b[:runtime.Stack(b, true)]), "\n\n") {
		if strings.Contains(stack, "dailies/slice.") {
			n++
		}
	}
	return n
}

// most is how many are at work at most, while a call is made again and again: until as many as workers have been seen, and for a while behind that, or until time is up.
func most(workers int, call func()) int {
	var hands sync.WaitGroup
	done, seen := make(chan int), 0
	hands.Go(func() {
		b := make([]byte, 1<<20)
		left := 40
		for until := time.Now().Add(60 * time.Second); left > 0 && time.Now().Before(until); {
			if seen = max(seen, atWork(b)); seen >= workers {
				left--
			}
			runtime.Gosched()
		}
		close(done)
	})
	for again := true; again; {
		call()
		select {
		case <-done:
			again = false
		default:
		}
	}
	hands.Wait()
	return seen
}

// WORKERS is how many goroutines code or decode: there come to be as many at once, and never more.
func TestWorkersAreSoMany(t *testing.T) {
	// However few processors there are: none must have to wait until another one has done its slice.
	defer runtime.GOMAXPROCS(runtime.GOMAXPROCS(8))
	c := chance(61)
	s := api.Shape{Width: 512, Height: 256, Depth: 10}
	k := api.Config{SliceW: 128, SliceH: 128, Ladder: []api.Rung{{}}}
	f := noise(s, &c)
	record, _, _ := coded(t, f, k)
	frames := slices.Repeat([]api.Frame{f}, 6)
	for _, workers := range []int{1, 2, 4} {
		for name, call := range map[string]func(){
			"Encode": func() { pool.Encode(f, k, workers) },
			"Whole":  func() { pool.Whole(view.Of(record), 4194304, workers) },
			"All":    func() { pool.All(frames, k, workers) },
			"Each": func() {
				for range pool.Each(slices.Values(frames), k, workers) {
				}
			},
		} {
			if n := most(workers, call); n != workers {
				t.Errorf("%s by %d: %d at work at once", name, workers, n)
			}
		}
	}
}
