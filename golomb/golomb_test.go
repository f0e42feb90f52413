package golomb_test

import (
	"math"
	"slices"
	"strconv"
	"strings"
	"testing"

	"dailies/api"
	"dailies/bits"
	"dailies/golomb"
)

// wrongParams and wrongWides are parameters and widths that may not be.
var (
	wrongParams = []int{math.MinInt, math.MinInt32, -16, -1, 16, 17, 64, 256, math.MaxInt32, math.MaxInt}
	wrongWides  = []int{math.MinInt, math.MinInt32, -1, 0, 17, 32, 64, 256, math.MaxInt32, math.MaxInt}
)

// chance is a row of numbers that look like chance and are the same each time.
type chance uint64

func (c *chance) below(n int) int {
	*c = *c*6364136223846793005 + 1442695040888963407
	return int(uint64(*c) >> 33 % uint64(n))
}

// text is as many digits of base 2 as are asked for, about one in `rare` of them a one.
func (c *chance) text(n, rare int) string {
	var s strings.Builder
	for range n {
		if c.below(rare) == 0 {
			s.WriteByte('1')
		} else {
			s.WriteByte('0')
		}
	}
	return s.String()
}

// noughts are so many digits.
func noughts(n int) string { return strings.Repeat("0", n) }

// digits is a number in base 2, in just n digits.
func digits(v, n int) string {
	if n == 0 {
		return ""
	}
	s := strconv.FormatInt(int64(v), 2)
	return noughts(n-len(s)) + s
}

// number is what digits say; of none 0.
func number(s string) int {
	v := 0
	for _, d := range s {
		v = 2*v + int(d-'0')
	}
	return v
}

// laid are the bits that a writer has, as digits.
func laid(w *bits.Writer) string {
	var s strings.Builder
	for _, b := range w.Bytes() {
		s.WriteString(digits(int(b), 8))
	}
	return s.String()[:w.Len()]
}

// reader is one to which just these digits are left.
func reader(t *testing.T, s string) *bits.Reader {
	t.Helper()
	w := bits.NewWriter()
	filling := (8 - len(s)%8) % 8
	for _, d := range strings.Repeat("1", filling) + s {
		if e := w.Put(uint32(d-'0'), 1); e != api.OK {
			t.Fatal(e)
		}
	}
	r := bits.NewReader(w.Bytes())
	if _, e := r.Get(filling); e != api.OK {
		t.Fatal(e)
	}
	return r
}

// left takes all that is left of a reader, as digits.
func left(t *testing.T, r *bits.Reader) string {
	t.Helper()
	var s strings.Builder
	for r.Left() > 0 {
		v, e := r.Get(1)
		if e != api.OK {
			t.Fatal(e)
		}
		s.WriteString(digits(int(v), 1))
	}
	return s.String()
}

// formOf is the form of a number, as the chapter says it.
func formOf(v, k, wide int) string {
	power := int(math.Pow(2, float64(k)))
	if u := v / power; u < 24 {
		return noughts(u) + "1" + digits(v%power, k)
	}
	return noughts(24) + digits(v, wide)
}

// formRead is what Get should answer for digits, and how many it takes.
func formRead(s string, k, wide int) (v, taken int, e api.Errno) {
	u := 0
	for u < 24 && u < len(s) && s[u] == '0' {
		u++
	}
	if u < 24 && u == len(s) {
		return 0, 0, api.ErrGolombEnd
	}
	begin, need := u+1, u+1+k
	if u == 24 {
		begin, need = 24, 24+wide
	}
	if len(s) < need {
		return 0, 0, api.ErrGolombEnd
	}
	v = number(s[begin:need])
	if u < 24 {
		v += u * int(math.Pow(2, float64(k)))
	}
	if v >= int(math.Pow(2, float64(wide))) || formOf(v, k, wide) != s[:need] {
		return 0, 0, api.ErrGolombForm
	}
	return v, need, api.OK
}

// numbers are those of a width that are tried: all, if these are few; else the edges, and some.
func numbers(wide int) []int {
	top := 1 << wide
	var all []int
	if wide <= 9 {
		for v := range top {
			all = append(all, v)
		}
		return all
	}
	for k := range 16 {
		for _, u := range []int{1, 2, 22, 23, 24, 25} {
			all = append(all, u<<k-1, u<<k, u<<k+1)
		}
	}
	all = append(all, 0, 1, top/2-1, top/2, top-2, top-1)
	c := chance(wide)
	for range 200 {
		all = append(all, c.below(top))
	}
	return slices.DeleteFunc(all, func(v int) bool { return v >= top })
}

// putsForm holds Put and Cost of a number against its form.
func putsForm(t *testing.T, v, k, wide int, want string) {
	t.Helper()
	w := bits.NewWriter()
	w.Put(5, 3)
	if e := golomb.Put(w, v, k, wide); e != api.OK || laid(w) != "101"+want {
		t.Fatalf("Put of %d by %d and %d: %v, %s, not %s", v, k, wide, e, laid(w), want)
	}
	if n, e := golomb.Cost(v, k, wide); n != len(want) || e != api.OK {
		t.Fatalf("Cost of %d by %d and %d: %d, %v, not %d", v, k, wide, n, e, len(want))
	}
}

// refuses holds Put and Cost against an error; nothing is laid down.
func refuses(t *testing.T, v, k, wide int, want api.Errno) {
	t.Helper()
	w := bits.NewWriter()
	w.Put(5, 3)
	if e := golomb.Put(w, v, k, wide); e != want || laid(w) != "101" {
		t.Errorf("Put of %d by %d and %d: %v, %s", v, k, wide, e, laid(w))
	}
	if n, e := golomb.Cost(v, k, wide); n != 0 || e != want {
		t.Errorf("Cost of %d by %d and %d: %d, %v", v, k, wide, n, e)
	}
}

// gets holds Get of digits against what it should answer, and what it leaves.
func gets(t *testing.T, s string, k, wide, want, taken int, errno api.Errno) {
	t.Helper()
	r := reader(t, s)
	if v, e := golomb.Get(r, k, wide); v != want || e != errno {
		t.Fatalf("Get of %s by %d and %d: %d, %v, not %d, %v", s, k, wide, v, e, want, errno)
	}
	if rest := left(t, r); rest != s[taken:] {
		t.Fatalf("Get of %s by %d and %d leaves %s", s, k, wide, rest)
	}
}

// O1: both ends of what Fold takes, and what lies between and beyond.
func TestFold(t *testing.T) {
	for _, c := range [][2]int{
		{0, 0}, {1, 2}, {-1, 1}, {2, 4}, {-2, 3}, {3, 6}, {-3, 5}, {1000, 2000}, {-1000, 1999},
		{1<<30 - 2, 1<<31 - 4}, {1<<30 - 1, 1<<31 - 2}, {-1<<30 + 1, 1<<31 - 3}, {-1 << 30, 1<<31 - 1},
	} {
		if v, e := golomb.Fold(c[0]); v != c[1] || e != api.OK {
			t.Errorf("Fold(%d): %d, %v", c[0], v, e)
		}
		if n, e := golomb.Unfold(c[1]); n != c[0] || e != api.OK {
			t.Errorf("Unfold(%d): %d, %v", c[1], n, e)
		}
	}
	for _, n := range []int{1 << 30, 1<<30 + 1, 1 << 31, math.MaxInt, -1<<30 - 1, -1<<30 - 2, math.MinInt32, math.MinInt} {
		if v, e := golomb.Fold(n); v != 0 || e != api.ErrGolombValue {
			t.Errorf("Fold(%d): %d, %v", n, v, e)
		}
	}
}

// O1: one beyond both ends of what Unfold takes, and further.
func TestUnfoldWrong(t *testing.T) {
	for _, v := range []int{-1, -2, math.MinInt32, math.MinInt, 1 << 31, 1<<31 + 1, 1 << 32, math.MaxInt} {
		if n, e := golomb.Unfold(v); n != 0 || e != api.ErrGolombValue {
			t.Errorf("Unfold(%d): %d, %v", v, n, e)
		}
	}
}

// P2.1: there and back is where one was.
func TestFoldBack(t *testing.T) {
	c := chance(1)
	for i := range 20000 {
		for _, v := range []int{i, 1<<31 - 1 - i, c.below(1 << 31)} {
			n, e := golomb.Unfold(v)
			if again, e2 := golomb.Fold(n); e != api.OK || e2 != api.OK || again != v {
				t.Fatalf("Unfold(%d): %d, %v; Fold of it: %d, %v", v, n, e, again, e2)
			}
		}
		for _, n := range []int{i - 10000, 1<<30 - 1 - i, i - 1<<30, c.below(1<<31) - 1<<30} {
			v, e := golomb.Fold(n)
			if again, e2 := golomb.Unfold(v); e != api.OK || e2 != api.OK || again != n {
				t.Fatalf("Fold(%d): %d, %v; Unfold of it: %d, %v", n, v, e, again, e2)
			}
		}
	}
}

// O2, O3, O4, P2.2: each parameter with each width; Get takes just what Put laid down.
func TestForms(t *testing.T) {
	for k := range 16 {
		for wide := 1; wide <= 16; wide++ {
			for _, v := range numbers(wide) {
				f := formOf(v, k, wide)
				putsForm(t, v, k, wide, f)
				gets(t, f, k, wide, v, len(f), api.OK)
			}
		}
	}
}

// O3: a number of 2^wide or more, or below 0, has no form.
func TestPutValue(t *testing.T) {
	for k := range 16 {
		for wide := 1; wide <= 16; wide++ {
			top := 1 << wide
			for _, v := range []int{top, top + 1, 2 * top, 1 << 40, math.MaxInt, -1, -top, math.MinInt32, math.MinInt} {
				refuses(t, v, k, wide, api.ErrGolombValue)
			}
		}
	}
}

// O3: parameters and widths that may not be, told ahead of the number.
func TestPutParam(t *testing.T) {
	for _, v := range []int{0, 1, 1 << 16, -1, math.MaxInt, math.MinInt} {
		for _, k := range wrongParams {
			for _, wide := range []int{1, 10, 16, 0, 17} {
				refuses(t, v, k, wide, api.ErrGolombParam)
			}
		}
		for _, wide := range wrongWides {
			for _, k := range []int{0, 7, 15, -1, 16} {
				refuses(t, v, k, wide, api.ErrGolombParam)
			}
		}
	}
}

// O3, O4: nil is told ahead of all that is wrong.
func TestNil(t *testing.T) {
	for _, k := range []int{0, 15, -1, 16} {
		for _, wide := range []int{1, 16, 0, 17} {
			for _, v := range []int{0, 1, 1 << 16, -1} {
				if e := golomb.Put(nil, v, k, wide); e != api.ErrArg {
					t.Errorf("Put of %d by %d and %d: %v", v, k, wide, e)
				}
			}
			if v, e := golomb.Get(nil, k, wide); v != 0 || e != api.ErrArg {
				t.Errorf("Get by %d and %d: %d, %v", k, wide, v, e)
			}
		}
	}
}

// O4: parameters and widths that may not be, told ahead of the end.
func TestGetParam(t *testing.T) {
	for _, s := range []string{"", "0", "1", noughts(23), noughts(60), "1" + noughts(60)} {
		for _, k := range wrongParams {
			gets(t, s, k, 10, 0, 0, api.ErrGolombParam)
			gets(t, s, k, 0, 0, 0, api.ErrGolombParam)
		}
		for _, wide := range wrongWides {
			gets(t, s, 2, wide, 0, 0, api.ErrGolombParam)
			gets(t, s, 15, wide, 0, 0, api.ErrGolombParam)
		}
	}
}

// O4: wherever the bits end within a form, nothing is taken; not even where what is there could only be no form.
func TestGetEnd(t *testing.T) {
	for k := range 16 {
		for wide := 1; wide <= 16; wide++ {
			for n := range 24 {
				gets(t, noughts(n), k, wide, 0, 0, api.ErrGolombEnd)
				for low := range k {
					gets(t, noughts(n)+"1"+noughts(low), k, wide, 0, 0, api.ErrGolombEnd)
					gets(t, noughts(n)+"1"+strings.Repeat("1", low), k, wide, 0, 0, api.ErrGolombEnd)
				}
			}
			for some := range wide {
				gets(t, noughts(24+some), k, wide, 0, 0, api.ErrGolombEnd)
				gets(t, noughts(24)+strings.Repeat("1", some), k, wide, 0, 0, api.ErrGolombEnd)
			}
		}
	}
}

// O4: a short form of 2^wide or more is none; one of 2^wide - 1 is.
func TestGetShortForm(t *testing.T) {
	tries := 0
	for k := range 16 {
		for wide := 1; wide <= 16; wide++ {
			top := 1 << wide
			for _, v := range []int{top - 1, top, top + 1, top + top/2, 2 * top, 24<<k - 1} {
				if v>>k >= 24 {
					continue
				}
				s := noughts(v>>k) + "1" + digits(v%(1<<k), k)
				if v < top {
					gets(t, s+"1", k, wide, v, len(s), api.OK)
					continue
				}
				tries++
				gets(t, s, k, wide, 0, 0, api.ErrGolombForm)
				gets(t, s+"10", k, wide, 0, 0, api.ErrGolombForm)
			}
		}
	}
	if tries < 100 {
		t.Errorf("%d tries", tries)
	}
}

// O4: a long form of a number that has a short one is none; that of the first that has none is.
func TestGetLongForm(t *testing.T) {
	for k := range 16 {
		for wide := 1; wide <= 16; wide++ {
			first := 24 << k
			for _, v := range []int{0, 1, 5, first / 2, first - 1, first, first + 1, 1<<wide - 1} {
				if v>>wide > 0 {
					continue
				}
				s := noughts(24) + digits(v, wide)
				if v >= first {
					gets(t, s+"1", k, wide, v, len(s), api.OK)
				} else {
					gets(t, s, k, wide, 0, 0, api.ErrGolombForm)
					gets(t, s+"11", k, wide, 0, 0, api.ErrGolombForm)
				}
			}
		}
	}
}

// O4: 23 noughts ahead of a one are a short form, 24 a long one, whatever comes behind.
func TestGetNoughts(t *testing.T) {
	gets(t, noughts(23)+"1"+"11", 2, 10, 95, 26, api.OK)
	gets(t, noughts(24)+"1"+noughts(9), 2, 10, 512, 34, api.OK)
	gets(t, noughts(25)+"1"+noughts(8), 2, 10, 256, 34, api.OK)
	gets(t, noughts(23)+"1", 0, 5, 23, 24, api.OK)
	gets(t, noughts(24)+"11000", 0, 5, 24, 29, api.OK)
	gets(t, noughts(24)+"10111", 0, 5, 0, 0, api.ErrGolombForm)
}

// O4, P2.2: whatever the digits are, what is answered has just the form that is taken; else nothing is taken.
func TestGetAnything(t *testing.T) {
	c := chance(2)
	seen := map[api.Errno]int{}
	for range 60000 {
		k, wide := c.below(16), 1+c.below(16)
		if c.below(2) == 0 {
			k = c.below(4)
		}
		s := noughts(c.below(27)) + c.text(c.below(40), 1+c.below(8))
		v, taken, errno := formRead(s, k, wide)
		gets(t, s, k, wide, v, taken, errno)
		seen[errno]++
	}
	for _, e := range []api.Errno{api.OK, api.ErrGolombEnd, api.ErrGolombForm} {
		if seen[e] < 1000 {
			t.Errorf("%v was asked for %d times", e, seen[e])
		}
	}
}

// O4, P2.2: all short texts, by small widths.
func TestGetEveryText(t *testing.T) {
	for n := range 9 {
		for x := range 1 << n {
			s := digits(x, n)
			for _, k := range []int{0, 1, 2, 3, 5} {
				for _, wide := range []int{1, 2, 3, 4, 7} {
					v, taken, errno := formRead(s, k, wide)
					gets(t, s, k, wide, v, taken, errno)
				}
			}
		}
	}
}

// P2.2: no form is the beginning of another one's, and none has more than 40 bits, which some have.
func TestFormsApart(t *testing.T) {
	longest := 0
	for k := range 16 {
		for wide := 1; wide <= 16; wide += 3 {
			var all []string
			for v := range 1 << wide {
				w := bits.NewWriter()
				if e := golomb.Put(w, v, k, wide); e != api.OK {
					t.Fatal(e)
				}
				all = append(all, laid(w))
				longest = max(longest, w.Len())
			}
			slices.Sort(all)
			for i := range len(all) - 1 {
				if strings.HasPrefix(all[i+1], all[i]) {
					t.Fatalf("by %d and %d: %s is the beginning of %s", k, wide, all[i], all[i+1])
				}
			}
		}
	}
	if longest != 40 {
		t.Errorf("the longest form has %d bits", longest)
	}
}

// P2.2: numbers one behind the other come back one by one.
func TestNumbersInARow(t *testing.T) {
	c := chance(3)
	for range 100 {
		w := bits.NewWriter()
		var all [][3]int
		want := ""
		for range 1 + c.below(60) {
			k, wide := c.below(16), 1+c.below(16)
			v := c.below(1<<wide) >> c.below(wide)
			all = append(all, [3]int{v, k, wide})
			want += formOf(v, k, wide)
			if e := golomb.Put(w, v, k, wide); e != api.OK {
				t.Fatal(e)
			}
			golomb.Put(w, 1<<wide, k, wide)
			golomb.Put(w, v, 16, wide)
		}
		if laid(w) != want {
			t.Fatalf("%v: %s, not %s", all, laid(w), want)
		}
		r := bits.NewReader(w.Bytes())
		for _, x := range all {
			golomb.Get(r, -1, x[2])
			if v, e := golomb.Get(r, x[1], x[2]); v != x[0] || e != api.OK {
				t.Fatalf("%v: %d, %v, not %d", all, v, e, x[0])
			}
		}
		if e := r.Rest(); e != api.OK {
			t.Error(e)
		}
	}
}

// The chapter's examples of numbers.
func TestExamples(t *testing.T) {
	putsForm(t, 5, 1, 10, "0011")
	putsForm(t, 95, 2, 10, noughts(23)+"111")
	putsForm(t, 96, 2, 10, noughts(24)+"0001100000")
	putsForm(t, 300, 2, 10, noughts(24)+"0100101100")
	refuses(t, 2, 0, 1, api.ErrGolombValue)
	refuses(t, 1, 16, 10, api.ErrGolombParam)
	gets(t, "011", 1, 1, 0, 0, api.ErrGolombForm)
	gets(t, "01", 1, 1, 0, 0, api.ErrGolombEnd)
	gets(t, noughts(24)+"0000000101", 2, 10, 0, 0, api.ErrGolombForm)
}
