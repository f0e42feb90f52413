package golomb_test

import (
	"math"
	"testing"

	"dailies/api"
	"dailies/bits"
	"dailies/golomb"
)

// wrongRooms are rooms that may not be.
var wrongRooms = []int{math.MinInt, math.MinInt32, -4096, -1, 0, 4097, 4098, 8192, math.MaxInt32, math.MaxInt}

// rowJ is the chapter's row J.
func rowJ(rate int) int {
	return []int{0, 0, 0, 0, 1, 1, 1, 1, 2, 2, 2, 3, 3, 4, 4, 5, 6, 7, 8, 9, 10, 11, 12}[rate]
}

// atRate is a coder of that rate: each run of just a stretch is one rate more.
func atRate(t *testing.T, rate int) *golomb.Runs {
	t.Helper()
	x := golomb.NewRuns()
	for i := range rate {
		stretch := 1 << rowJ(i)
		if e := x.Put(bits.NewWriter(), stretch, stretch); e != api.OK {
			t.Fatal(e)
		}
	}
	if x.Rate() != rate {
		t.Fatalf("the rate is %d, not %d", x.Rate(), rate)
	}
	return x
}

// runOf is what Put should lay down for a run, and the rate behind it, by the chapter's three steps.
func runOf(n, room, rate int) (string, int) {
	s, left := "", n
	for left > 0 && 1<<rowJ(rate) <= left {
		s += "1"
		left -= 1 << rowJ(rate)
		if rate < 22 {
			rate++
		}
	}
	if n == room {
		if left > 0 {
			s += "1"
		}
		return s, rate
	}
	s += "0" + digits(left, rowJ(rate))
	if rate > 0 {
		rate--
	}
	return s, rate
}

// runRead is what Get should answer for digits, how many it takes, and the rate behind it, by the chapter's four steps.
func runRead(s string, room, rate int) (n, taken, after int, e api.Errno) {
	before, at := rate, 0
	for left := room; left > 0; {
		if at == len(s) {
			return 0, 0, before, api.ErrGolombEnd
		}
		bit, j := s[at], rowJ(rate)
		at++
		if bit == '0' {
			if at+j > len(s) {
				return 0, 0, before, api.ErrGolombEnd
			}
			few := number(s[at : at+j])
			if few >= left {
				return 0, 0, before, api.ErrGolombForm
			}
			return n + few, at + j, max(rate-1, 0), api.OK
		}
		if 1<<j > left {
			return n + left, at, rate, api.OK
		}
		n += 1 << j
		left -= 1 << j
		rate = min(rate+1, 22)
	}
	return n, at, rate, api.OK
}

// putsRun holds Put by a rate against digits and the rate behind it.
func putsRun(t *testing.T, n, room, rate int, want string, after int) {
	t.Helper()
	x, w := atRate(t, rate), bits.NewWriter()
	w.Put(5, 3)
	if e := x.Put(w, n, room); e != api.OK || laid(w) != "101"+want || x.Rate() != after {
		t.Fatalf("rate %d, %d of %d: %v, %s and rate %d, not %s and %d", rate, n, room, e, laid(w), x.Rate(), want, after)
	}
}

// getsRun holds Get by a rate against what it should answer and leave.
func getsRun(t *testing.T, s string, room, rate, want, taken, after int, errno api.Errno) {
	t.Helper()
	x, r := atRate(t, rate), reader(t, s)
	if n, e := x.Get(r, room); n != want || e != errno || x.Rate() != after {
		t.Fatalf("rate %d, room %d, %s: %d, %v and rate %d, not %d, %v and %d", rate, room, s, n, e, x.Rate(), want, errno, after)
	}
	if rest := left(t, r); rest != s[taken:] {
		t.Fatalf("rate %d, room %d, %s: %s is left", rate, room, s, rest)
	}
}

// runLengths are the runs of a room that are tried: all, if these are few; else the edges.
func runLengths(room int) []int {
	var all []int
	if room <= 40 {
		for n := range room + 1 {
			all = append(all, n)
		}
		return all
	}
	for at := 1; at <= room; at *= 2 {
		all = append(all, at-1, at)
	}
	return append(all, room/3, room/2+1, room-1, room)
}

func rooms() []int {
	return []int{1, 2, 3, 4, 5, 7, 8, 9, 15, 16, 17, 20, 31, 40, 64, 100, 255, 256, 1000, 2048, 4095, 4096}
}

// O5: a new coder has the rate 0, and each one is new.
func TestNewRuns(t *testing.T) {
	x, y := golomb.NewRuns(), golomb.NewRuns()
	if x == y || x.Rate() != 0 || y.Rate() != 0 {
		t.Error(x.Rate(), y.Rate())
	}
}

// O5, P2.3: each rate, runs of nothing, of all the room, and between; Get takes just what Put laid down.
func TestRuns(t *testing.T) {
	for rate := range 23 {
		for _, room := range rooms() {
			for _, n := range runLengths(room) {
				s, after := runOf(n, room, rate)
				putsRun(t, n, room, rate, s, after)
				getsRun(t, s, room, rate, n, len(s), after, api.OK)
				getsRun(t, s+"0", room, rate, n, len(s), after, api.OK)
				getsRun(t, s+"1111", room, rate, n, len(s), after, api.OK)
			}
		}
	}
}

// O5: wherever the bits end within a run, nothing is taken, and the rate stays.
func TestRunsEnd(t *testing.T) {
	for rate := range 23 {
		for _, room := range []int{1, 2, 5, 17, 40, 300, 4096} {
			for _, n := range runLengths(room) {
				s, _ := runOf(n, room, rate)
				for short := range len(s) {
					getsRun(t, s[:short], room, rate, 0, 0, rate, api.ErrGolombEnd)
				}
			}
		}
	}
}

// O5: the number behind a nought must be below what is left; it is so up to one fewer.
func TestRunsForm(t *testing.T) {
	tries := 0
	for rate := range 23 {
		j := rowJ(rate)
		for few := range 1 << j {
			if few > 64 && few < 1<<j-64 {
				continue
			}
			s := "0" + digits(few, j)
			for _, room := range []int{few - 1, few, few + 1, few + 2} {
				if room < 1 || room > 4096 {
					continue
				}
				if few < room {
					getsRun(t, s+"1", room, rate, few, len(s), max(rate-1, 0), api.OK)
					continue
				}
				tries++
				getsRun(t, s, room, rate, 0, 0, rate, api.ErrGolombForm)
				getsRun(t, s+"01", room, rate, 0, 0, rate, api.ErrGolombForm)
				// The end is told ahead of the form, though what is there could only be none.
				getsRun(t, s[:len(s)-1], room, rate, 0, 0, rate, api.ErrGolombEnd)
			}
		}
	}
	if tries < 100 {
		t.Errorf("%d tries", tries)
	}
}

// O5: with an error behind some stretches, the rate is what it was ahead of the call.
func TestRunsErrorBehindStretches(t *testing.T) {
	getsRun(t, "111", 4, 0, 0, 0, 0, api.ErrGolombEnd)
	getsRun(t, "1111", 5, 0, 0, 0, 0, api.ErrGolombEnd)
	getsRun(t, "1111101", 7, 0, 0, 0, 0, api.ErrGolombForm)
	getsRun(t, "1111100", 7, 0, 6, 7, 4, api.OK)
	getsRun(t, "111110", 7, 0, 0, 0, 0, api.ErrGolombEnd)
	getsRun(t, "110001", 19, 11, 0, 0, 11, api.ErrGolombEnd)
	getsRun(t, "1100011", 19, 11, 0, 0, 11, api.ErrGolombForm)
	getsRun(t, "1100010", 19, 11, 18, 7, 12, api.OK)
}

// O5: all short texts, by small rooms.
func TestRunsEveryText(t *testing.T) {
	for length := range 8 {
		for v := range 1 << length {
			s := digits(v, length)
			for _, rate := range []int{0, 1, 3, 4, 7, 8, 10, 11, 13, 15, 22} {
				for _, room := range []int{1, 2, 3, 5, 8, 13} {
					n, taken, after, errno := runRead(s, room, rate)
					getsRun(t, s, room, rate, n, taken, after, errno)
				}
			}
		}
	}
}

// P2.3: whatever the digits are: of a run that Get answers, Put lays down just what Get took, by the same rate.
func TestRunsAnything(t *testing.T) {
	c := chance(4)
	seen := map[api.Errno]int{}
	for range 30000 {
		rate, room, s := c.below(23), 1+c.below(4096)>>c.below(12), c.text(c.below(30), 1+c.below(4))
		n, taken, after, errno := runRead(s, room, rate)
		getsRun(t, s, room, rate, n, taken, after, errno)
		if errno == api.OK {
			putsRun(t, n, room, rate, s[:taken], after)
		}
		seen[errno]++
	}
	for _, e := range []api.Errno{api.OK, api.ErrGolombEnd, api.ErrGolombForm} {
		if seen[e] < 1000 {
			t.Errorf("%v was asked for %d times", e, seen[e])
		}
	}
}

// O5: wrong runs and rooms, and nil; the room is told ahead of the run; nothing is laid down, and the rate stays.
func TestRunsPutWrong(t *testing.T) {
	for _, rate := range []int{0, 5, 22} {
		x, w := atRate(t, rate), bits.NewWriter()
		w.Put(5, 3)
		is := func(e, want api.Errno, n, room int) {
			t.Helper()
			if e != want || laid(w) != "101" || x.Rate() != rate {
				t.Errorf("%d of %d: %v, %s, rate %d", n, room, e, laid(w), x.Rate())
			}
		}
		for _, room := range wrongRooms {
			for _, n := range []int{0, 1, room, -1, math.MinInt, math.MaxInt} {
				is(x.Put(w, n, room), api.ErrArg, n, room)
				is(x.Put(nil, n, room), api.ErrArg, n, room)
			}
		}
		for _, room := range rooms() {
			for _, n := range []int{-1, -room, math.MinInt32, math.MinInt, room + 1, 2 * room, 4097, math.MaxInt} {
				is(x.Put(w, n, room), api.ErrGolombValue, n, room)
				is(x.Put(nil, n, room), api.ErrArg, n, room)
			}
			is(x.Put(nil, room, room), api.ErrArg, room, room)
		}
	}
}

// O5: wrong rooms and nil; told ahead of the end; nothing is taken, and the rate stays.
func TestRunsGetWrong(t *testing.T) {
	for _, rate := range []int{0, 5, 22} {
		for _, s := range []string{"", "0", "1111111111", noughts(40)} {
			for _, room := range wrongRooms {
				getsRun(t, s, room, rate, 0, 0, rate, api.ErrArg)
			}
		}
		x := atRate(t, rate)
		for _, room := range append(rooms(), wrongRooms...) {
			if n, e := x.Get(nil, room); n != 0 || e != api.ErrArg || x.Rate() != rate {
				t.Errorf("room %d: %d, %v, rate %d", room, n, e, x.Rate())
			}
		}
	}
}

// O5: the rate is 22 at most and 0 at least.
func TestRateEnds(t *testing.T) {
	putsRun(t, 4096, 4096, 22, "1", 22)
	getsRun(t, "1", 4096, 22, 4096, 1, 22, api.OK)
	putsRun(t, 4095, 4095, 22, "1", 22)
	getsRun(t, "1", 4095, 22, 4095, 1, 22, api.OK)
	putsRun(t, 4095, 4096, 22, "0"+"111111111111", 21)
	getsRun(t, "0111111111111", 4096, 22, 4095, 13, 21, api.OK)
	putsRun(t, 0, 4096, 0, "0", 0)
	getsRun(t, "0", 4096, 0, 0, 1, 0, api.OK)
	putsRun(t, 0, 1, 1, "0", 0)
	getsRun(t, "0", 1, 1, 0, 1, 0, api.OK)
	putsRun(t, 1, 1, 0, "1", 1)
	getsRun(t, "1", 1, 0, 1, 1, 1, api.OK)
}

// P2.3: runs one behind the other come back one by one; the rates of both coders are the same behind each.
func TestRunsInARow(t *testing.T) {
	c := chance(5)
	for range 300 {
		x, w := golomb.NewRuns(), bits.NewWriter()
		var all [][3]int
		for range 1 + c.below(60) {
			room := 1 + c.below(4096)>>c.below(13)
			n := min(room, c.below(room+1)*(1+c.below(3))>>c.below(4))
			if e := x.Put(w, n, room); e != api.OK {
				t.Fatal(e)
			}
			all = append(all, [3]int{n, room, x.Rate()})
			x.Put(w, room+1, room)
		}
		y, r := golomb.NewRuns(), bits.NewReader(w.Bytes())
		for _, a := range all {
			y.Get(r, 0)
			if n, e := y.Get(r, a[1]); n != a[0] || e != api.OK || y.Rate() != a[2] {
				t.Fatalf("%v: %d, %v, rate %d, not %v", all, n, e, y.Rate(), a)
			}
		}
		if e := r.Rest(); e != api.OK {
			t.Error(e)
		}
	}
}

// P2.4: runs that go to the end of their rooms take a bit each, and 22 more at most.
func TestWholeRuns(t *testing.T) {
	c := chance(6)
	most := func(top int) func() int { return func() int { return 1 + c.below(top) } }
	always := func(n int) func() int { return func() int { return n } }
	for _, room := range []func() int{
		always(1), always(2), always(3), always(7), always(8), always(100), always(4095), always(4096),
		most(2), most(9), most(100), most(4096), func() int { return 1 << c.below(13) },
	} {
		x, w := golomb.NewRuns(), bits.NewWriter()
		for h := 1; h <= 400; h++ {
			n := room()
			if e := x.Put(w, n, n); e != api.OK {
				t.Fatal(e)
			}
			if w.Len() > h+22 {
				t.Fatalf("%d runs take %d bits", h, w.Len())
			}
		}
	}
}

// P2.5: coders have nothing to do with one another.
func TestRunsApart(t *testing.T) {
	x, y := golomb.NewRuns(), golomb.NewRuns()
	v, w := bits.NewWriter(), bits.NewWriter()
	for i := range 10 {
		if e := x.Put(v, 1<<rowJ(i), 1<<rowJ(i)); e != api.OK || x.Rate() != i+1 || y.Rate() != 0 {
			t.Error(e, x.Rate(), y.Rate())
		}
		if e := y.Put(w, 0, 9); e != api.OK {
			t.Error(e)
		}
	}
	if laid(v) != "1111111111" || laid(w) != "0000000000" {
		t.Error(laid(v), laid(w))
	}
	z := golomb.NewRuns()
	if n, e := z.Get(reader(t, "11"), 2); n != 2 || e != api.OK || z.Rate() != 2 || x.Rate() != 10 || y.Rate() != 0 {
		t.Error(n, e, z.Rate(), x.Rate(), y.Rate())
	}
}

// The chapter's examples of runs.
func TestRunsExamples(t *testing.T) {
	x, w, want := golomb.NewRuns(), bits.NewWriter(), ""
	for _, c := range []struct {
		n, room int
		s       string
		rate    int
	}{{3, 8, "1110", 2}, {8, 8, "11111", 7}, {0, 8, "00", 6}, {20, 20, "111111", 11}, {5, 20, "0101", 10}} {
		want += c.s
		if e := x.Put(w, c.n, c.room); e != api.OK || laid(w) != want || x.Rate() != c.rate {
			t.Errorf("%d of %d: %v, %s, rate %d", c.n, c.room, e, laid(w), x.Rate())
		}
	}
	getsRun(t, "0111", 7, 11, 0, 0, 11, api.ErrGolombForm)
	getsRun(t, "0111", 8, 11, 7, 4, 10, api.OK)
}
