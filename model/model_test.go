package model_test

import (
	"math"
	"math/big"
	"sync"
	"testing"

	"dailies/api"
	"dailies/model"
)

// chance tells numbers that look as if by chance, the same ones each time.
type chance uint64

func (c *chance) below(n int) int {
	*c = *c*6364136223846793005 + 1442695040888963407
	return int(uint64(*c)>>33) % n
}

// known is what the chapter says of one depth and tolerance, word by word.
type known struct{ max, d, s, r, low, high int }

func knownOf(depth, tolerance int) known {
	k := known{max: 1023, d: tolerance, s: 2*tolerance + 1}
	if depth == 12 {
		k.max = 4095
	}
	for k.r*k.s <= k.max+2*k.d { // the least R so that R s is above MAX + 2 d
		k.r++
	}
	for 2*(k.low+1) <= k.r {
		k.low++
	}
	k.high = k.r - 1 - k.low
	return k
}

func cut(n, l, h int) int {
	switch {
	case n < l:
		return l
	case n > h:
		return h
	}
	return n
}

func (k known) shrink(e int) int {
	e = cut(e, -k.max, k.max)
	q := int(math.Floor((math.Abs(float64(e)) + float64(k.d)) / float64(k.s)))
	if e < 0 {
		q = -q
	}
	if q < -k.low {
		q += k.r
	} else if q > k.high {
		q -= k.r
	}
	return q
}

func (k known) grow(p, q int) int {
	v := cut(p, 0, k.max) + cut(q, -k.r, k.r)*k.s
	if v < -k.d {
		v += k.r * k.s
	} else if v > k.max+k.d {
		v -= k.r * k.s
	}
	return cut(v, 0, k.max)
}

// each ranges over all models that may be, with what is known of them.
func each(t *testing.T, tell func(m *model.Model, k known)) {
	t.Helper()
	for _, depth := range []int{10, 12} {
		for tolerance := 0; tolerance <= api.MaxTolerance; tolerance++ {
			tell(made(t, depth, tolerance), knownOf(depth, tolerance))
		}
	}
}

func made(t *testing.T, depth, tolerance int) *model.Model {
	t.Helper()
	m, e := model.New(depth, tolerance)
	if e != api.OK || m == nil {
		t.Fatal(depth, tolerance, m, e)
	}
	return m
}

func TestNewRefusesDepthsAheadOfTolerances(t *testing.T) {
	odd := []int{math.MinInt, -64, -1, 0, 1, 2, 9, 10, 11, 12, 13, 62, 63, 64, 65, 1 << 20, math.MaxInt}
	for _, depth := range odd {
		for _, tolerance := range odd {
			want := api.OK
			if tolerance < 0 || tolerance > 63 {
				want = api.ErrModelTolerance
			}
			if depth != 10 && depth != 12 {
				want = api.ErrModelDepth
			}
			m, e := model.New(depth, tolerance)
			if e != want || (m == nil) != (want != api.OK) {
				t.Errorf("New(%d, %d): %v %v", depth, tolerance, m, e)
			}
		}
	}
}

func TestNewHasLearntNothing(t *testing.T) {
	each(t, func(m *model.Model, k known) {
		first := k.r + 32
		first = max((first-first%64)/64, 2)
		for c := 0; c < api.Contexts; c++ {
			if a, b, bias, n := m.Stats(c); a != first || b != 0 || bias != 0 || n != 1 {
				t.Fatal(k, c, a, b, bias, n)
			}
		}
	})
}

func TestRangeAndWideOfAllModels(t *testing.T) {
	each(t, func(m *model.Model, k known) {
		if m.Range() != k.r || m.Range() != (k.max+2*k.d)/k.s+1 {
			t.Error(k, m.Range())
		}
		wide := 0
		for power := 1; power < k.r; power *= 2 {
			wide++
		}
		if m.Wide() != wide {
			t.Error(k, m.Wide(), wide)
		}
	})
}

func TestRangeCountsTheQuotients(t *testing.T) {
	each(t, func(m *model.Model, k known) {
		told := map[int]int{}
		for e := -k.max; e <= k.max; e++ {
			q := m.Shrink(e)
			if q < -k.low || q > k.high {
				t.Fatal(k, e, q)
			}
			told[q]++
		}
		if len(told) != m.Range() {
			t.Error(k, len(told), m.Range())
		}
	})
}

func TestShrinkOfAllErrors(t *testing.T) {
	each(t, func(m *model.Model, k known) {
		for e := -k.max - 200; e <= k.max+200; e++ {
			if q := m.Shrink(e); q != k.shrink(e) {
				t.Fatal(k, e, q, k.shrink(e))
			}
		}
		if m.Shrink(math.MinInt) != m.Shrink(-k.max) || m.Shrink(math.MaxInt) != m.Shrink(k.max) {
			t.Error(k, m.Shrink(math.MinInt), m.Shrink(math.MaxInt))
		}
	})
}

// The first errors that are told by a quotient beside the last one come round on the other side.
func TestShrinkAtTheLastQuotients(t *testing.T) {
	each(t, func(m *model.Model, k known) {
		for _, x := range [][2]int{{k.high, k.high}, {k.high + 1, k.high + 1 - k.r}, {-k.low, -k.low}, {-k.low - 1, k.r - k.low - 1}} {
			for _, beside := range []int{-k.d, 0, k.d} {
				e := x[0]*k.s + beside
				if e < -k.max || e > k.max {
					continue
				}
				if q := m.Shrink(e); q != x[1] {
					t.Error(k, e, q, x[1])
				}
			}
		}
	})
}

func TestGrowAgainstItsWords(t *testing.T) {
	each(t, func(m *model.Model, k known) {
		guesses := []int{math.MinInt, -k.s, -1, 0, 1, k.d, k.d + 1, k.s, k.max / 2, k.max - k.s, k.max - k.d, k.max - 1, k.max, k.max + 1, k.max + k.s, math.MaxInt}
		for _, p := range guesses {
			for q := -k.r - 3; q <= k.r+3; q++ {
				if v := m.Grow(p, q); v != k.grow(p, q) {
					t.Fatal(k, p, q, v, k.grow(p, q))
				}
			}
			if m.Grow(p, math.MinInt) != k.grow(p, -k.r) || m.Grow(p, math.MaxInt) != k.grow(p, k.r) {
				t.Error(k, p, m.Grow(p, math.MinInt), m.Grow(p, math.MaxInt))
			}
		}
	})
}

// With v at -d and at MAX + d it is cut; one beyond it comes round.
func TestGrowWhereItComesRound(t *testing.T) {
	each(t, func(m *model.Model, k known) {
		for q := 1; q < k.r; q++ {
			if p := q*k.s - k.d; p <= k.max && m.Grow(p, -q) != 0 {
				t.Fatal(k, p, -q, m.Grow(p, -q))
			}
			if p := q*k.s - k.d - 1; p <= k.max && m.Grow(p, -q) != min(k.r*k.s-k.d-1, k.max) {
				t.Fatal(k, p, -q, m.Grow(p, -q))
			}
			if p := k.max + k.d - q*k.s; p >= 0 && m.Grow(p, q) != k.max {
				t.Fatal(k, p, q, m.Grow(p, q))
			}
			if p := k.max + k.d + 1 - q*k.s; p >= 0 && m.Grow(p, q) != max(k.max+k.d+1-k.r*k.s, 0) {
				t.Fatal(k, p, q, m.Grow(p, q))
			}
		}
	})
}

func TestGrowTakesTheOppositeOfEachQuotient(t *testing.T) {
	each(t, func(m *model.Model, k known) {
		if k.r%2 == 0 && k.low == k.high {
			t.Error(k)
		}
		for p := 0; p <= k.max; p += 31 {
			if v, w := m.Grow(p, k.low), k.grow(p, k.low); v != w {
				t.Fatal(k, p, v, w)
			}
		}
	})
}

func apart(x, y int) int { return max(x-y, y-x) }

// holds is P9.1 to P9.3 of a sample and a guess.
func holds(m *model.Model, k known, x, p int) bool {
	for _, g := range []int{1, -1} {
		q := m.Shrink(g * (x - p))
		y := m.Grow(p, g*q)
		if y < 0 || y > k.max || apart(x, y) > k.d || m.Shrink(g*(y-p)) != q {
			return false
		}
	}
	if q := m.Shrink(x - p); apart(x, p) > k.d && (q == 0 || apart(m.Grow(p, q), p) <= k.d) {
		return false
	}
	return true
}

func TestP9_1To9_3OfAllSamplesAndGuesses(t *testing.T) {
	for _, tolerance := range []int{0, 1, 2, 7, 62, 63} {
		m, k := made(t, 10, tolerance), knownOf(10, tolerance)
		for x := 0; x <= k.max; x++ {
			for p := 0; p <= k.max; p++ {
				if !holds(m, k, x, p) {
					t.Fatal(k, x, p)
				}
			}
		}
	}
}

func TestP9_1To9_3OfAllModels(t *testing.T) {
	c := chance(91)
	each(t, func(m *model.Model, k known) {
		guesses := []int{0, 1, k.d, k.d + 1, k.s, k.max - k.d - 1, k.max - k.d, k.max - 1, k.max}
		for range 8 {
			guesses = append(guesses, c.below(k.max+1))
		}
		for _, p := range guesses {
			for x := 0; x <= k.max; x++ {
				if !holds(m, k, x, p) {
					t.Fatal(k, x, p)
				}
			}
		}
	})
}

func TestP9_1ToleranceNoughtBringsBackTheSample(t *testing.T) {
	for _, depth := range []int{10, 12} {
		m, k := made(t, depth, 0), knownOf(depth, 0)
		for x := 0; x <= k.max; x++ {
			for p := 0; p <= k.max; p += 1 + k.max/512 {
				if m.Grow(p, m.Shrink(x-p)) != x || m.Grow(p, -m.Shrink(p-x)) != x {
					t.Fatal(depth, x, p)
				}
			}
		}
	}
}

func TestMedOfSmallNumbersAtAllOrders(t *testing.T) {
	for a := -4; a <= 4; a++ {
		for b := -4; b <= 4; b++ {
			for c := -4; c <= 4; c++ {
				if got, want := model.Med(a, b, c), wideMed(a, b, c); got != want {
					t.Error(a, b, c, got, want)
				}
			}
		}
	}
}

// wideMed is Med by numbers that never wrap round.
func wideMed(a, b, c int) int {
	low, high := a, b
	if b < a {
		low, high = b, a
	}
	if c >= high {
		return low
	}
	if c <= low {
		return high
	}
	sum := new(big.Int).Add(big.NewInt(int64(a)), big.NewInt(int64(b)))
	return int(sum.Sub(sum, big.NewInt(int64(c))).Int64())
}

func TestMedOfTheGreatestAndTheLeastNumbers(t *testing.T) {
	far := []int{math.MinInt, math.MinInt + 1, math.MinInt / 2, -1, 0, 1, math.MaxInt / 2, math.MaxInt - 1, math.MaxInt}
	for _, a := range far {
		for _, b := range far {
			for _, c := range far {
				got := model.Med(a, b, c)
				if got != wideMed(a, b, c) || got < min(a, b) || got > max(a, b) {
					t.Error(a, b, c, got)
				}
			}
		}
	}
}

func TestS9ExamplesOfNumbers(t *testing.T) {
	m := made(t, 10, 0)
	if m.Range() != 1024 || m.Wide() != 10 {
		t.Error(m.Range(), m.Wide())
	}
	for _, x := range [][2]int{{5, 5}, {-1023, 1}, {512, -512}, {511, 511}, {-512, -512}, {-513, 511}} {
		if q := m.Shrink(x[0]); q != x[1] {
			t.Error(x, q)
		}
	}
	if m.Grow(1000, 1) != 1001 || m.Grow(1023, 1) != 0 || m.Param(7) != 4 {
		t.Error(m.Grow(1000, 1), m.Grow(1023, 1), m.Param(7))
	}
	m = made(t, 10, 2)
	if m.Range() != 206 || m.Wide() != 8 || m.Shrink(7) != 1 || m.Shrink(8) != 2 || m.Shrink(-8) != -2 || m.Grow(1020, 1) != 1023 {
		t.Error(m.Range(), m.Wide(), m.Shrink(7), m.Shrink(8), m.Shrink(-8), m.Grow(1020, 1))
	}
	m = made(t, 12, 63)
	if m.Range() != 34 || m.Wide() != 6 {
		t.Error(m.Range(), m.Wide())
	}
	if model.Med(3, 8, 9) != 3 || model.Med(3, 8, 2) != 8 || model.Med(3, 8, 5) != 6 {
		t.Error("Med")
	}
}

// Models are made and taught at the same time, each apart from the others.
func TestP4ModelsAtTheSameTime(t *testing.T) {
	taught := func() [4]int {
		m, e := model.New(12, 3)
		if e != api.OK {
			return [4]int{}
		}
		c := chance(94)
		for range 5000 {
			m.Learn(c.below(3), c.below(41)-20)
		}
		a, b, bias, n := m.Stats(1)
		return [4]int{a, b, bias, n}
	}
	want := taught()
	got := make([][4]int, 8)
	var all sync.WaitGroup
	for k := range got {
		all.Go(func() { got[k] = taught() })
	}
	all.Wait()
	for k := range got {
		if got[k] != want || want == [4]int{} {
			t.Error(k, got[k], want)
		}
	}
}
