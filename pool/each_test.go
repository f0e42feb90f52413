package pool_test

import (
	"iter"
	"runtime"
	"testing"

	"dailies/api"
	"dailies/picture"
	"dailies/pool"
)

// teller tells frames out of one frame's memory, which is written over as soon as the next one is asked for; it counts what it is asked.
type teller struct {
	frames []api.Frame
	asked  int // frames that were asked for
	begun  int // times it was ranged over
	left   int // times it was left early
	ended  int // times it came to its end
	hands  map[string]int
}

func tellerOf(frames []api.Frame) *teller { return &teller{frames: frames, hands: map[string]int{}} }

func (s *teller) tell(yield func(api.Frame) bool) {
	s.begun++
	for _, f := range s.frames {
		s.asked++
		s.hands[here()]++
		told := copied(f)
		more := yield(told)
		for p := range told.Planes {
			flip(told.Planes[p])
			told.Planes[p] = nil
		}
		if !more {
			s.left++
			return
		}
	}
	s.ended++
}

// pairOf is what picture tells of a frame by one hand.
type pairOf struct {
	coded api.Coded
	errno api.Errno
}

func pairsOf(frames []api.Frame, c api.Config) []pairOf {
	var list []pairOf
	for _, f := range frames {
		x, e := picture.Encode(f, c)
		list = append(list, pairOf{x, e})
	}
	return list
}

// is holds a pair that was told against picture's.
func (p pairOf) is(x api.Coded, e api.Errno) bool { return sameCoded(p.coded, x) && p.errno == e }

// checkEach ranges over all pairs, and holds each against picture's, and how many frames were asked for ahead of it against the chapter's words.
func checkEach(t *testing.T, frames []api.Frame, c api.Config, workers int) {
	t.Helper()
	want := pairsOf(frames, c)
	s := tellerOf(frames)
	i := 0
	for x, e := range pool.Each(s.tell, c, workers) {
		if i >= len(want) || !want[i].is(x, e) {
			t.Fatalf("%d frames by %d: pair %d is another one: %v", len(frames), workers, i, e)
		}
		if e != api.OK && !nothingCoded(x) {
			t.Fatal("something beside an error")
		}
		if s.asked != min(i+workers, len(frames)) {
			t.Fatalf("%d frames by %d: ahead of pair %d %d were asked for", len(frames), workers, i, s.asked)
		}
		// Where a frame more might be asked for, it is: only then a pair is told.
		if (s.ended == 1) != (i+workers > len(frames)) {
			t.Fatalf("%d frames by %d: ahead of pair %d the frames had ended: %d", len(frames), workers, i, s.ended)
		}
		i++
	}
	if i != len(frames) || s.asked != len(frames) || s.begun != 1 || s.ended != 1 || s.left != 0 {
		t.Fatalf("%d frames by %d: %d pairs, %+v", len(frames), workers, i, s)
	}
}

// L4, P14.2: of no frames, of one, of as many as there are workers, of one less, of one more, and of many.
func TestL4EachIsPictures(t *testing.T) {
	frames := row(36)
	for _, workers := range rightWorkers() {
		for _, n := range []int{0, 1, 2, workers - 1, workers, workers + 1, 2 * workers, 2*workers + 1, 36} {
			checkEach(t, frames[:min(n, 36)], plain, workers)
		}
	}
	for i, w := range ways() {
		checkEach(t, []api.Frame{w.frame, flat(w.frame.Shape, i), w.frame}, w.config, 1+i%16)
	}
}

// P14.3: a frame that cannot be coded, wherever it stands, spoils no other one's pair.
func TestP14_3FramesThatAreNone(t *testing.T) {
	tight := plain
	tight.Cap = 700
	for _, workers := range []int{1, 2, 3, 5, 16} {
		for _, f := range wrongFrames() {
			for at := range 6 {
				frames := row(6)
				frames[at] = f
				checkEach(t, frames, plain, workers)
				checkEach(t, frames, tight, workers)
				frames[5-at] = f
				checkEach(t, frames, plain, workers)
			}
			checkEach(t, []api.Frame{f, f, f, f}, plain, workers)
		}
	}
	refused := 0
	for _, p := range pairsOf(row(6), tight) {
		if p.errno == api.ErrCap {
			refused++
		}
	}
	if refused == 0 || refused == 6 {
		t.Error(refused, "of 6 are beyond the cap")
	}
	for _, c := range wrongConfigs() {
		checkEach(t, append(row(3), api.Frame{}), c, 2)
	}
}

// told is one pair of nothing and an error, each time, also within its own loop, and also if it is left there.
func told(t *testing.T, it iter.Seq2[api.Coded, api.Errno], want api.Errno) {
	t.Helper()
	n, inner := 0, 0
	for x, e := range it {
		if n++; !nothingCoded(x) || e != want {
			t.Fatal(x, e)
		}
		for x, e := range it {
			if inner++; !nothingCoded(x) || e != want {
				t.Fatal(x, e)
			}
		}
	}
	for range it {
		n++
		break
	}
	if n != 2 || inner != 1 {
		t.Fatal(n, inner, "pairs")
	}
}

// L4: wrong workers are told ahead of frames that are nil, each by one pair; and no frame is asked for.
func TestL4OnePair(t *testing.T) {
	for _, c := range append(wrongConfigs(), plain) {
		for _, workers := range wrongWorkers() {
			s := tellerOf(row(2))
			told(t, pool.Each(s.tell, c, workers), api.ErrPoolWorkers)
			told(t, pool.Each(nil, c, workers), api.ErrPoolWorkers)
			if s.begun != 0 {
				t.Fatal(workers, "workers: frames are asked for")
			}
		}
		for _, workers := range rightWorkers() {
			told(t, pool.Each(nil, c, workers), api.ErrArg)
		}
	}
}

// L4: left behind each of its pairs in turn: no further frame is asked for, the frames are left, and all goroutines have ended.
func TestL4LeftEarly(t *testing.T) {
	before := runtime.NumGoroutine()
	frames := row(9)
	want := pairsOf(frames, plain)
	for _, workers := range []int{1, 2, 3, 8, 9, 10, 16} {
		for last := range frames {
			s := tellerOf(frames)
			i := 0
			for x, e := range pool.Each(s.tell, plain, workers) {
				if !want[i].is(x, e) {
					t.Fatal(workers, last, i, e)
				}
				if i == last {
					break
				}
				i++
			}
			ended(t, before)
			asked := min(last+workers, 9)
			if i != last || s.asked != asked || s.begun != 1 {
				t.Fatalf("by %d, left behind %d: %+v", workers, last, s)
			}
			// Where fewer frames than workers are under way, they had ended on their own.
			if over := last+workers > 9; over != (s.ended == 1) || over == (s.left == 1) {
				t.Fatalf("by %d, left behind %d: %+v", workers, last, s)
			}
		}
	}
}

// The chapter's example.
func TestEachExample(t *testing.T) {
	s := tellerOf(row(5))
	var asked []int
	for range pool.Each(s.tell, plain, 2) {
		if asked = append(asked, s.asked); len(asked) == 2 {
			break
		}
	}
	if s.asked != 3 || asked[0] != 2 || asked[1] != 3 || s.left != 1 {
		t.Error(asked, s.asked)
	}
}

// long are frames that take a while, so that workers are at work when a loop is left.
func long() []api.Frame {
	c := chance(77)
	var list []api.Frame
	for range 5 {
		list = append(list, noise(api.Shape{Width: 224, Height: 208, Depth: 10}, &c))
	}
	return list
}

// What ends the loop otherwise does the same: a return, a panic, an outer loop gone on with, the end of the goroutine.
func TestL4LeftOtherwise(t *testing.T) {
	before := runtime.NumGoroutine()
	frames := long()
	ways := map[string]func(it iter.Seq2[api.Coded, api.Errno]){
		"break": func(it iter.Seq2[api.Coded, api.Errno]) {
			for range it {
				break
			}
		},
		"return": func(it iter.Seq2[api.Coded, api.Errno]) {
			for range it {
				return
			}
		},
		"panic": func(it iter.Seq2[api.Coded, api.Errno]) {
			defer func() {
				if v := recover(); v != "the loop's own" {
					t.Error("another panic:", v)
				}
			}()
			for range it {
				panic("the loop's own")
			}
		},
		"continue": func(it iter.Seq2[api.Coded, api.Errno]) {
		outer:
			for range 1 {
				for range it {
					continue outer
				}
			}
		},
		"goexit": func(it iter.Seq2[api.Coded, api.Errno]) {
			gone := make(chan int)
			go func() {
				defer close(gone)
				for range it {
					runtime.Goexit()
				}
			}()
			<-gone
		},
		"pulled": func(it iter.Seq2[api.Coded, api.Errno]) {
			next, stop := iter.Pull2(it)
			if _, e, ok := next(); e != api.OK || !ok {
				t.Error(e, ok)
			}
			stop()
		},
	}
	for name, way := range ways {
		for _, workers := range []int{1, 2, 4, 5, 6, 16} {
			s := tellerOf(frames)
			way(pool.Each(s.tell, plain, workers))
			ended(t, before)
			if s.asked != min(workers, 5) || s.begun != 1 {
				t.Error(name, workers, s.asked, s.begun)
			}
		}
	}
}

// A panic of the frames' own is theirs: it goes on, and all goroutines have ended.
func TestFramesThatPanic(t *testing.T) {
	before := runtime.NumGoroutine()
	frames := long()
	for _, workers := range []int{1, 2, 4, 16} {
		pairs := 0
		func() {
			defer func() {
				if v := recover(); v != "the frames' own" {
					t.Error("another panic:", v)
				}
			}()
			for range pool.Each(func(yield func(api.Frame) bool) {
				for _, f := range frames[:3] {
					if !yield(f) {
						return
					}
				}
				panic("the frames' own")
			}, plain, workers) {
				pairs++
			}
		}()
		ended(t, before)
		if pairs != max(0, 4-workers) {
			t.Error(workers, pairs)
		}
	}
}

// P14.2: ranged over again, it ranges over the frames again; nothing is asked for ahead of that.
func TestP14_2RangedOverAgain(t *testing.T) {
	frames := row(6)
	want := pairsOf(frames, plain)
	for _, workers := range []int{1, 2, 5, 6, 7, 16} {
		s := tellerOf(frames)
		it := pool.Each(s.tell, plain, workers)
		if s.begun != 0 || s.asked != 0 {
			t.Fatal("frames are asked for by the call")
		}
		for again := range 3 {
			for range it { // left early, it begins anew
				break
			}
			i := 0
			for x, e := range it {
				if !want[i].is(x, e) {
					t.Fatal(workers, again, i, e)
				}
				i++
			}
			if i != 6 || s.begun != 2*again+2 {
				t.Fatal(workers, again, i, s.begun)
			}
		}
	}
}

// P14.2: within its own loop, too; each loop has its own frames under way.
func TestP14_2WithinItsOwnLoop(t *testing.T) {
	before := runtime.NumGoroutine()
	frames := row(5)
	want := pairsOf(frames, plain)
	for _, workers := range []int{1, 2, 4, 5, 6, 16} {
		s := tellerOf(frames)
		it := pool.Each(s.tell, plain, workers)
		i := 0
		for x, e := range it {
			if !want[i].is(x, e) {
				t.Fatal(workers, i, e)
			}
			asked := s.asked
			k := 0
			for x, e := range it {
				if !want[k].is(x, e) {
					t.Fatal(workers, i, k, e)
				}
				if s.asked-asked != min(k+workers, 5) {
					t.Fatal(workers, i, k, s.asked-asked)
				}
				if k == i { // left behind another pair each time
					break
				}
				k++
			}
			s.asked = asked
			i++
		}
		if i != 5 || s.begun != 6 {
			t.Fatal(workers, i, s.begun)
		}
		ended(t, before)
	}
}

// The frames are ranged over by the goroutine that ranges over the answer.
func TestL4ByTheSameHand(t *testing.T) {
	for _, workers := range rightWorkers() {
		s := tellerOf(row(20))
		for range pool.Each(s.tell, plain, workers) {
		}
		if len(s.hands) != 1 || s.hands[here()] != 20 {
			t.Error(workers, s.hands, here())
		}
	}
}

// With one worker each pair is told ahead of the next frame.
func TestL4OneWorker(t *testing.T) {
	var told []string
	frames := func(yield func(api.Frame) bool) {
		for _, f := range row(3) {
			told = append(told, "frame")
			if !yield(f) {
				return
			}
		}
		told = append(told, "end")
	}
	for range pool.Each(frames, plain, 1) {
		told = append(told, "pair")
	}
	want := []string{"frame", "pair", "frame", "pair", "frame", "pair", "end"}
	if len(told) != len(want) {
		t.Fatal(told)
	}
	for i := range want {
		if told[i] != want[i] {
			t.Fatal(told)
		}
	}
}

// The ladder is copied by the call: what becomes of it behind the call has no part in the pairs.
func TestL4TheLadderIsCopied(t *testing.T) {
	frames := row(5)
	c := plain
	c.Ladder = []api.Rung{{}, {1, 1, 1}}
	want := pairsOf(frames, c)
	for _, workers := range []int{1, 2, 16} {
		ladder := spare(c.Ladder, api.Rung{5, 5, 5})
		mine := c
		mine.Ladder = ladder
		it := pool.Each(tellerOf(frames).tell, mine, workers)
		ladder[0], ladder[1] = api.Rung{9, 9, 9}, api.Rung{-1}
		for range 2 {
			i := 0
			for x, e := range it {
				if !want[i].is(x, e) {
					t.Fatal(workers, i, e)
				}
				ladder[0][0]++
				i++
			}
		}
	}
}
