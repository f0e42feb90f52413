package pool_test

import (
	"bytes"
	"math"
	"runtime"
	"slices"
	"sync/atomic"
	"testing"

	"dailies/api"
	"dailies/picture"
	"dailies/pool"
	"dailies/view"
)

// tap is a source that tells what it was asked for and by whom, and refuses one of its calls (-1: none).
type tap struct {
	bytes  []byte
	size   int
	refuse int
	errno  api.Errno
	reads  []api.Span
	told   [][]byte
	hands  map[string]int // goroutines that asked
	inside atomic.Int32
	twice  bool // it was asked while it was asked
}

func tapOf(b []byte) *tap {
	return &tap{bytes: b, size: len(b), refuse: -1, hands: map[string]int{}}
}

func (s *tap) Size() int { return s.size }

func (s *tap) Read(at, n int) ([]byte, api.Errno) {
	if s.inside.Add(1) != 1 {
		s.twice = true
	}
	defer s.inside.Add(-1)
	runtime.Gosched()
	s.hands[here()]++
	s.reads = append(s.reads, api.Span{At: at, Length: n})
	if len(s.reads)-1 == s.refuse {
		return nil, s.errno
	}
	if at < 0 || n < 0 || at > len(s.bytes) || n > len(s.bytes)-at {
		return nil, api.ErrMediumRange
	}
	s.told = append(s.told, bytes.Clone(s.bytes[at:at+n]))
	return s.told[len(s.told)-1], api.OK
}

// answer is all that Whole tells.
type answer struct {
	frame  api.Frame
	report api.Report
	errno  api.Errno
}

func wholeOf(src api.Source, limit, workers int) answer {
	f, r, e := pool.Whole(src, limit, workers)
	return answer{f, r, e}
}

func (x answer) is(y answer) bool {
	a, b := x.report, y.report
	return x.errno == y.errno && sameFrames(x.frame, y.frame) && a.Head == b.Head && slices.Equal(a.Slices, b.Slices) && slices.Equal(a.Marks, b.Marks) && a.Given == b.Given
}

// check holds Whole against view's: what it answers, and what it asks its source for, in that order and by one hand; a call of the source's may be refused (-1: none is).
func check(t *testing.T, b []byte, limit, workers, refuse int, errno api.Errno) (answer, []api.Span) {
	t.Helper()
	mine, theirs := tapOf(b), tapOf(b)
	mine.refuse, mine.errno = refuse, errno
	theirs.refuse, theirs.errno = refuse, errno
	f, r, e := view.Whole(mine, limit)
	want, got := answer{f, r, e}, wholeOf(theirs, limit, workers)
	if !got.is(want) {
		t.Fatalf("limit %d, by %d, refused %d:\n%v %+v\nwant\n%v %+v", limit, workers, refuse, got.errno, got.report, want.errno, want.report)
	}
	if !slices.Equal(mine.reads, theirs.reads) {
		t.Fatalf("limit %d, by %d, refused %d: reads %v\nwant %v", limit, workers, refuse, theirs.reads, mine.reads)
	}
	if theirs.twice || len(theirs.hands) > 1 {
		t.Fatalf("by %d: the source was asked by %v, twice at once: %v", workers, theirs.hands, theirs.twice)
	}
	return got, theirs.reads
}

// shown is the record that most tests look at: 51 by 20, so that the last column is odd, in 8 slices, with two parity rows.
func shown(t *testing.T) ([]byte, api.Head, []api.Entry) {
	t.Helper()
	c := chance(5)
	s := api.Shape{Width: 51, Height: 20, Depth: 10, Alpha: true}
	return coded(t, mixed(s, &c), api.Config{SliceW: 16, SliceH: 16, Ladder: []api.Rung{{1, 2, 2, 3}}, Parity: 2})
}

// L2: the workers are asked first, also of a source that is nil; and then nothing is asked of the source.
func TestL2Workers(t *testing.T) {
	record, h, _ := shown(t)
	n := samples(h.Shape)
	for _, workers := range wrongWorkers() {
		for _, limit := range []int{-1, 0, n - 1, n, 4194305} {
			for _, b := range [][]byte{record, record[:31], nil} {
				src := tapOf(b)
				if x := wholeOf(src, limit, workers); !x.is(answer{errno: api.ErrPoolWorkers}) || len(src.reads) != 0 {
					t.Error(workers, limit, x.errno, src.reads)
				}
			}
			if x := wholeOf(nil, limit, workers); !x.is(answer{errno: api.ErrPoolWorkers}) {
				t.Error(workers, limit, x.errno)
			}
		}
	}
	for _, workers := range rightWorkers() {
		for _, limit := range []int{-1, 0, n, 4194305, math.MinInt, math.MaxInt} {
			if x := wholeOf(nil, limit, workers); !x.is(answer{errno: api.ErrArg}) {
				t.Error(workers, limit, x.errno)
			}
		}
		if x, _ := check(t, record, n, workers, -1, 0); x.errno != api.OK || slices.Max(x.report.Marks) != api.Sound {
			t.Error(workers, x.errno)
		}
	}
}

// L2, P14.1: records of all kinds, at every number of workers; what comes back is coded to the same bytes again.
func TestP14_1WholeIsViews(t *testing.T) {
	c := chance(141)
	for _, w := range ways() {
		record, h, list := coded(t, w.frame, w.config)
		n := samples(h.Shape)
		for _, workers := range rightWorkers() {
			if workers > 2 && workers < 16 && c.below(5) != 0 {
				continue
			}
			x, reads := check(t, record, n, workers, -1, 0)
			if x.errno != api.OK || slices.Max(x.report.Marks) != api.Sound || len(reads) != 2+h.Slices {
				t.Fatal(h, workers, x.errno, x.report)
			}
			if y, e := pool.Encode(x.frame, picture.Pinned(h), workers); !bytes.Equal(y.Bytes, record) || e != api.OK {
				t.Fatal(h, workers, e)
			}
			var numbers []int
			for k := range list {
				if c.below(4) == 0 {
					numbers = append(numbers, k)
				}
			}
			check(t, spoilt(record, list, numbers...), n, workers, -1, 0)
		}
	}
}

// Limits, and records that are none: each is refused as by view, and no more is read.
func TestWholeRefuses(t *testing.T) {
	record, h, _ := shown(t)
	n := samples(h.Shape)
	size := picture.TableSize(h)
	head, table := bytes.Clone(record), bytes.Clone(record)
	head[5] ^= 1
	table[40] ^= 1
	long := func(b []byte) []byte { return append(bytes.Clone(b), 0) }
	told := map[api.Errno]int{}
	for _, b := range [][]byte{
		nil, record[:1], record[:31], record[:32], record[:33], record[:32+size-1], record[:32+size], record[:len(record)-1], record, long(record),
		head, head[:31], long(head), table, long(table), table[:len(table)-1], bytes.Repeat([]byte("DLY1"), 100),
	} {
		for _, limit := range []int{math.MinInt, -1, 0, 1, n - 1, n, n + 1, 4194303, 4194304, 4194305, math.MaxInt} {
			for _, workers := range []int{1, 2, 16} {
				x, _ := check(t, b, limit, workers, -1, 0)
				told[x.errno]++
			}
		}
	}
	for _, e := range []api.Errno{api.OK, api.ErrArg, api.ErrLimit, api.ErrPictureHead, api.ErrPictureTable, api.ErrPictureLength} {
		if told[e] == 0 {
			t.Error(e, "is never told")
		}
	}
	if len(told) != 6 {
		t.Error(told)
	}
	// A source may have more bytes than any record.
	for _, size := range []int{1 << 27, 268435457, 1 << 40, math.MaxInt} {
		src := tapOf(record)
		src.size = size
		if x := wholeOf(src, n, 3); !x.is(answer{errno: api.ErrPictureLength}) || len(src.reads) != 1 {
			t.Error(size, x.errno, src.reads)
		}
	}
}

// A Read that is refused is the call's error at once, at each of the calls in turn.
func TestWholeReadsRefusedInTurn(t *testing.T) {
	record, h, list := shown(t)
	n := samples(h.Shape)
	for _, b := range [][]byte{record, spoilt(record, list, 4), spoilt(record, list, 0, 8), spoilt(record, list, 0, 4, 9), spoilt(record, list, 9)} {
		for _, workers := range []int{1, 2, 16} {
			_, reads := check(t, b, n, workers, -1, 0)
			for i := range reads {
				for _, e := range []api.Errno{api.ErrMediumRange, api.ErrMediumDead, api.ErrArg, api.ErrPoolWorkers, 999, -5} {
					x, some := check(t, b, n, workers, i, e)
					if !x.is(answer{errno: e}) || !slices.Equal(some, reads[:i+1]) {
						t.Fatal(workers, i, x.errno, some)
					}
				}
			}
		}
	}
	// Ahead of them all: the arguments; behind the head's: the limit.
	if x, reads := check(t, record, -1, 2, 0, api.ErrMediumDead); x.errno != api.ErrArg || len(reads) != 0 {
		t.Error(x.errno, reads)
	}
	if x, _ := check(t, record, 0, 2, 1, api.ErrMediumDead); x.errno != api.ErrLimit {
		t.Error(x.errno)
	}
}

// T5: whichever payloads and parity rows are spoilt: marks, samples, reads and Given are view's.
func TestWholeWhicheverAreSpoilt(t *testing.T) {
	c := chance(133)
	marks := map[api.Mark]int{}
	for p := range 4 {
		s := api.Shape{Width: 40, Height: 20, Depth: 12}
		record, h, list := coded(t, mixed(s, &c), api.Config{SliceW: 16, SliceH: 16, Ladder: []api.Rung{{1, 0, 2}}, Parity: p})
		if h.Slices != 6 {
			t.Fatal(h)
		}
		for i, numbers := range subsets(6 + p) {
			x, _ := check(t, spoilt(record, list, numbers...), samples(s), []int{1, 2, 3, 16}[i%4], -1, 0)
			for _, m := range x.report.Marks {
				marks[m]++
			}
		}
	}
	if len(marks) != 3 {
		t.Error(marks)
	}
}

// The greatest numbers: 16 rows, 200 slices.
func TestWholeSixteenRows(t *testing.T) {
	s := api.Shape{Width: 320, Height: 160, Depth: 10}
	record, _, list := coded(t, ramp(s), api.Config{SliceW: 16, SliceH: 16, Ladder: []api.Rung{{2, 2, 2}}, Parity: 16})
	numbers := []int{0, 1, 2, 3, 20, 50, 77, 78, 79, 100, 111, 160, 180, 197, 198, 199, 215}
	for _, some := range [][]int{numbers[:1], numbers[15:16], numbers[5:9], numbers[:16], numbers} {
		for _, workers := range []int{1, 5, 16} {
			x, reads := check(t, spoilt(record, list, some...), samples(s), workers, -1, 0)
			if lost := slices.Contains(x.report.Marks, api.Lost); lost != (len(some) == 17) || len(reads) != 2+216 {
				t.Error(some, x.report.Marks, len(reads))
			}
		}
	}
}

// A payload that is not spoilt, and that is none, is lost, and parity is not asked for its sake; beside a spoilt one it stays what it is.
func TestWholePayloadsThatAreNone(t *testing.T) {
	s := api.Shape{Width: 60, Height: 16, Depth: 12}
	for p := range 3 {
		c := api.Config{SliceW: 16, SliceH: 16, Ladder: []api.Rung{{}}, Parity: p}
		good, _, list := coded(t, ramp(s), c)
		for _, junk := range [][]byte{nil, []byte("none"), bytes.Repeat([]byte{0, 0, 3}, 40)} {
			for _, none := range subsets(4) {
				var payloads [][]byte
				for k := range 4 {
					payloads = append(payloads, bytesOf(good, list[k]))
					if slices.Contains(none, k) {
						payloads[k] = junk
					}
				}
				record, h, entries := assembled(t, s, c, payloads)
				for i, numbers := range subsets(4 + p) {
					x, reads := check(t, spoilt(record, entries, numbers...), samples(s), 1+i%5, -1, 0)
					for _, k := range none {
						if x.report.Marks[k] != api.Lost {
							t.Fatal(none, numbers, x.report.Marks)
						}
					}
					for _, span := range reads {
						if span.Length == 0 {
							t.Fatal(none, numbers, reads)
						}
					}
				}
				// A sum that is another one: the payload is spoilt, though nobody wrote over it, and of nothing, too.
				for k := range 4 {
					b := bytes.Clone(record)
					b[32+8*k+4] ^= 0x40
					resum(b[32 : 32+picture.TableSize(h)])
					if x, _ := check(t, b, samples(s), 1+k, -1, 0); x.report.Marks[k] != api.Lost {
						t.Fatal(none, k, x.report.Marks)
					}
				}
			}
		}
	}
}

// T6: bytes that were written over anywhere, heads and tables with sums that are right again.
func TestWholeOfAnyBytes(t *testing.T) {
	c := chance(66)
	var records [][]byte
	for _, w := range ways() {
		if len(w.frame.Planes[0]) <= 1100 {
			b, _, _ := coded(t, w.frame, w.config)
			records = append(records, b)
		}
	}
	told := map[api.Errno]int{}
	marks := map[api.Mark]int{}
	for range 4000 {
		b := bytes.Clone(records[c.below(len(records))])
		h, _ := opened(t, b)
		size := picture.TableSize(h)
		for range c.below(4) {
			switch c.below(5) {
			case 0:
				b[c.below(32)] ^= 1 << c.below(8)
				resum(b[:32])
			case 1:
				b[32+c.below(size)] ^= 1 << c.below(8)
				resum(b[32 : 32+size])
			case 2:
				b[c.below(len(b))] = byte(c.below(256))
			case 3: // two payloads' lengths, so that their sum stays
				one, two := 32+8*c.below(h.Slices)+3, 32+8*c.below(h.Slices)+3
				b[one], b[two] = b[one]+1, b[two]-1
				resum(b[32 : 32+size])
			default:
				at := 32 + size
				b[at+c.below(len(b)-at)] ^= 1 << c.below(8)
			}
		}
		x, _ := check(t, b, []int{samples(h.Shape), samples(h.Shape) - 1, 4194304}[c.below(3)], 1+c.below(16), -1, 0)
		told[x.errno]++
		for _, m := range x.report.Marks {
			marks[m]++
		}
	}
	if told[api.OK] < 300 || told[api.ErrLimit] < 30 || told[api.ErrPictureHead] < 30 || told[api.ErrPictureTable] < 30 {
		t.Error("not all is told often enough", told)
	}
	if marks[api.Sound] < 100 || marks[api.Mended] < 30 || marks[api.Lost] < 30 {
		t.Error("slices do not stand in all ways often enough", marks)
	}
}

// The greatest frame, in as many slices as there are.
func TestWholeOfTheGreatest(t *testing.T) {
	s := api.Shape{Width: 2048, Height: 1024, Depth: 12}
	f := frameOf(s, func(p, x, y int) int { return 16*(x/64+y/32) + p })
	record, _, list := coded(t, f, api.Config{SliceW: 16, SliceH: 16, Ladder: []api.Rung{{}}})
	for _, workers := range []int{1, 16} {
		x, reads := check(t, record, 4194304, workers, -1, 0)
		if !sameFrames(x.frame, f) || x.errno != api.OK || len(reads) != 8194 {
			t.Fatal(workers, x.errno, len(reads))
		}
		x, _ = check(t, spoilt(record, list, 0, 4000, 8191), 4194304, workers, -1, 0)
		for k, m := range x.report.Marks {
			if (m == api.Lost) != (k == 0 || k == 4000 || k == 8191) {
				t.Fatal(k, m)
			}
		}
		check(t, record, 4194303, workers, -1, 0)
	}
}

// When it has answered, all goroutines have ended; the source is asked by the hand that calls.
func TestWholeEnds(t *testing.T) {
	before := runtime.NumGoroutine()
	record, h, list := shown(t)
	for _, b := range [][]byte{record, spoilt(record, list, 2, 3), record[:40]} {
		for _, workers := range append(rightWorkers(), -1, 0, 17) {
			src := tapOf(b)
			pool.Whole(src, samples(h.Shape), workers)
			ended(t, before)
			if len(src.hands) > 0 && src.hands[here()] != len(src.reads) {
				t.Fatal(workers, "another hand asks the source", src.hands, here())
			}
		}
	}
}
