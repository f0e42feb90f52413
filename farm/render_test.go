package farm_test

import (
	"math"
	"runtime"
	"slices"
	"strings"
	"sync"
	"testing"
	"time"

	"dailies/api"
	"dailies/crc"
	"dailies/farm"
)

// renders says what Render tells.
func renders(t *testing.T, frames []api.Frame, c api.Config, workers int, fails []int, want []api.Coded) {
	t.Helper()
	list, e := farm.Render(frames, c, workers, fails)
	if e != api.OK || !slices.EqualFunc(list, want, sameCoded) {
		t.Fatalf("%d workers, fails %v: %d records (%v): not as asked for", workers, fails, len(list), e)
	}
}

// Example 3.
func TestExample3(t *testing.T) {
	frames := row(3)
	renders(t, frames, plain(), 2, []int{0, 4, 5}, records(byOneHand(frames, plain()), 2))
}

// Example 9 of the whole, by the calls that its line names.
func TestExample9OfTheWhole(t *testing.T) {
	wide := api.Shape{Width: 48, Height: 32, Depth: 10}
	frames := []api.Frame{ramp(wide), flat(wide, 100), flat(api.Shape{Width: 16, Height: 16, Depth: 10}, 512)}
	list, e := farm.Render(frames, plain(), 3, []int{0, 2, 5})
	if e != api.OK || len(list) != 3 {
		t.Fatal(len(list), e)
	}
	for i, want := range []struct {
		length int
		sum    uint32
	}{{1062, 0x527d3982}, {300, 0x8d81850a}, {0, 0}} {
		if b := list[i].Bytes; len(b) != want.length || crc.Sum(b) != want.sum {
			t.Errorf("%d: %d:%08x", i, len(b), crc.Sum(b))
		}
	}
}

// Render: fails is nil, shorter than the frames and longer; below 0, at 0, 4, 5 and above.
func TestFails(t *testing.T) {
	frames := row(4)
	want := byOneHand(frames, plain())
	for _, workers := range []int{1, 2, 4, 16} {
		for _, x := range []struct{ fails, without []int }{
			{nil, nil},
			{[]int{}, nil},
			{[]int{0, 0, 0, 0}, nil},
			{[]int{1, 2, 3, 4}, nil},
			{[]int{4, 4, 4, 4}, nil},
			{[]int{5}, []int{0}},
			{[]int{4, 5}, []int{1}},
			{[]int{0, 5, 4}, []int{1}},
			{[]int{0, 0, 0, 5}, []int{3}},
			{[]int{5, 6, 7, 1000}, []int{0, 1, 2, 3}},
			{[]int{-1, -5, -6, math.MinInt}, nil},
			{[]int{-1, 5, math.MinInt32, 4}, []int{1}},
			{[]int{math.MaxInt, 0, 1 << 32, -1 << 32}, []int{0, 2}},
			{[]int{0, 1, 0, 2, 5, 5, -1, 9}, nil},
			{[]int{5, 0, 0, 0, 0, 0}, []int{0}},
		} {
			renders(t, frames, plain(), workers, x.fails, records(want, x.without...))
		}
	}
}

// P21.1, T12: 1 to 16 workers make the same records, whichever tries fail; frames that no cap takes among them.
func TestP21_1RenderByAllHands(t *testing.T) {
	k, sorts := tight(t)
	c := chance(2116)
	for range 30 {
		frames := sortsOf(sorts, 1+c.below(24), &c)
		answers := byOneHand(frames, k)
		fails := make([]int, c.below(30))
		var without []int
		for i := range fails {
			if fails[i] = c.below(8) - 1; fails[i] >= 5 {
				without = append(without, i)
			}
		}
		want := records(answers, without...)
		for workers := 1; workers <= 16; workers++ {
			renders(t, frames, k, workers, fails, want)
		}
		// It is what a farm's own Result tells, in which one worker fails as often.
		f := made(t, frames, k, 1, 1)
		for job, e := f.Take(0); e == api.OK; job, e = f.Take(0) {
			if _, tries, _ := f.State(job); job < len(fails) && tries <= fails[job] {
				must(t, f.Fail(0), api.OK)
			} else {
				f.Deliver(0)
			}
		}
		results(t, f, want)
	}
}

// Render: every way in which three jobs fail, by few workers and by more than there are jobs.
func TestEveryWayToFail(t *testing.T) {
	frames := row(3)
	answers := byOneHand(frames, plain())
	for n := range 7 * 7 * 7 {
		fails := []int{n % 7, n / 7 % 7, n / 49}
		var without []int
		for i, k := range fails {
			if k >= 5 {
				without = append(without, i)
			}
		}
		for _, workers := range []int{1, 2, 3, 5} {
			renders(t, frames, plain(), workers, fails, records(answers, without...))
		}
	}
}

// P1, P21.5: as many jobs and failing tries as there may be.
func TestRenderAsManyAsMayBe(t *testing.T) {
	frames := row(1000)
	answers := byOneHand(frames, plain())
	fails := make([]int, 1200)
	var without []int
	for i := range fails {
		if fails[i] = i % 6; fails[i] == 5 {
			without = append(without, i)
		}
	}
	for _, workers := range []int{1, 16} {
		renders(t, frames, plain(), workers, nil, records(answers))
		renders(t, frames, plain(), workers, fails, records(answers, without...))
		renders(t, frames, plain(), workers, slices.Repeat([]int{5}, 1000), make([]api.Coded, 1000))
	}
}

// stacks are those of all goroutines but the one that calls.
func stacks(b []byte) []string {
	return strings.Split(string(b[:runtime.Stack(b, true)]), "\n\n")[1:]
}

// P21.5, P4: when Render has answered, no goroutine of its own is at work, and soon there is none: whatever fails, and whatever is refused.
func TestP21_5NoGoroutineIsLeft(t *testing.T) {
	k, sorts := tight(t)
	c := chance(2115)
	before := runtime.NumGoroutine()
	b := make([]byte, 1<<20)
	for workers := 0; workers <= 17; workers++ {
		for _, fails := range [][]int{nil, {5, 5, 5, 5, 5, 5}, {0, 4, 5, 1}} {
			for _, n := range []int{0, 1, 6} {
				farm.Render(sortsOf(sorts, n, &c), k, workers, fails)
				farm.Render(sortsOf(sorts, n, &c), api.Config{}, workers, fails)
				for _, stack := range stacks(b) {
					// Who began it does not matter: it may be seen while it goes.
					if frames, _, _ := strings.Cut(stack, "\ncreated by"); strings.Contains(frames, "dailies/farm.") {
						t.Fatalf("a goroutine is still at work:\n%s", stack)
					}
				}
			}
		}
	}
	for range 2000 {
		if runtime.NumGoroutine() <= before {
			return
		}
		time.Sleep(time.Millisecond)
	}
	t.Fatal(runtime.NumGoroutine(), "goroutines; there were", before)
}

// atWork is how many goroutines are coding just now.
func atWork(b []byte) int {
	n := 0
	for _, stack := range stacks(b) {
		if strings.Contains(stack, "dailies/slice.") {
			n++
		}
	}
	return n
}

// Render: workers are at it side by side: there come to be as many at once, and never more.
func TestSideBySide(t *testing.T) {
	// However few processors there are: none must have to wait until another one has done its frame.
	defer runtime.GOMAXPROCS(runtime.GOMAXPROCS(8))
	c := chance(2112)
	frames := slices.Repeat([]api.Frame{noise(api.Shape{Width: 256, Height: 128, Depth: 10}, &c)}, 12)
	k := api.Config{SliceW: 256, SliceH: 128, Ladder: []api.Rung{{}}}
	for _, workers := range []int{1, 2, 4} {
		var hands sync.WaitGroup
		done, seen := make(chan int), 0
		hands.Go(func() {
			b := make([]byte, 1<<20)
			left := 40
			for until := time.Now().Add(60 * time.Second); left > 0 && time.Now().Before(until); {
				if seen = max(seen, atWork(b)); seen >= workers {
					left--
				}
				runtime.Gosched()
			}
			close(done)
		})
		for again := true; again; {
			farm.Render(frames, k, workers, []int{2, 0, 1})
			select {
			case <-done:
				again = false
			default:
			}
		}
		hands.Wait()
		if seen != workers {
			t.Errorf("%d at work at once, not %d", seen, workers)
		}
	}
}

// P4: Renders and farms of many goroutines at once tell what each tells alone.
func TestRendersBesideOneAnother(t *testing.T) {
	k, sorts := tight(t)
	c := chance(2117)
	frames := sortsOf(sorts, 9, &c)
	answers := byOneHand(frames, k)
	want := records(answers, 1, 6)
	fails := []int{1, 5, 0, 4, 2, 0, 7}
	var hands sync.WaitGroup
	for i := range 8 {
		hands.Go(func() {
			for round := range 6 {
				list, e := farm.Render(frames, k, 1+(i+3*round)%16, fails)
				if e != api.OK || !slices.EqualFunc(list, want, sameCoded) {
					t.Error(i, round, "another answer", e)
				}
				f, e := farm.New(frames, k, 1, 1)
				if e != api.OK {
					t.Error(e)
					return
				}
				for job := range frames {
					f.Take(0)
					if x, e := f.Deliver(0); !answers[job].is(x, e) {
						t.Error(i, round, job, "another record", e)
					}
				}
			}
		})
	}
	hands.Wait()
}
