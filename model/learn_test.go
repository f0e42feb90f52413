package model_test

import (
	"math"
	"testing"

	"dailies/api"
	"dailies/model"
)

// four are A, B, BIAS and N, as the chapter's Learn goes through them.
type four struct{ a, b, bias, n int }

func (k known) first() four { return four{max((k.r+32)/64, 2), 0, 0, 1} }

func (f four) learn(k known, q int) four {
	q = cut(q, -k.r, k.r)
	f.a += max(q, -q)
	f.b += q * k.s
	if f.n == 64 {
		f.a = (f.a - f.a%2) / 2
		f.b = int(math.Floor(float64(f.b) / 2))
		f.n = 32
	}
	f.n++
	switch {
	case f.b <= -f.n:
		if f.bias > -128 {
			f.bias--
		}
		f.b += f.n
		if f.b <= -f.n {
			f.b = 1 - f.n
		}
	case f.b > 0:
		if f.bias < 127 {
			f.bias++
		}
		f.b -= f.n
		if f.b > 0 {
			f.b = 0
		}
	}
	return f
}

func (f four) param() int {
	for k := range 15 {
		if float64(f.n)*math.Pow(2, float64(k)) >= float64(f.a) {
			return k
		}
	}
	return 15
}

func stats(m *model.Model, context int) four {
	a, b, bias, n := m.Stats(context)
	return four{a, b, bias, n}
}

// quotients are lists to be learnt: by chance, one sided, at their ends, all alike.
func (k known) quotients(c *chance, many int) [][]int {
	kinds := []func(i int) int{
		func(i int) int { return c.below(2*k.r+1) - k.r },
		func(i int) int { return c.below(7) - 3 },
		func(i int) int { return c.below(3) - 1 },
		func(i int) int { return k.r },
		func(i int) int { return -k.r },
		func(i int) int { return 1 },
		func(i int) int { return -1 },
		func(i int) int { return 0 },
		func(i int) int { return i % 2 * -3 },
		func(i int) int { return []int{-k.r - 1, k.r + 1, math.MinInt, math.MaxInt, 0}[c.below(5)] },
	}
	lists := make([][]int, len(kinds))
	for n, kind := range kinds {
		for i := range many {
			lists[n] = append(lists[n], kind(i))
		}
	}
	return lists
}

func TestLearnAgainstItsWords(t *testing.T) {
	c := chance(95)
	for _, depth := range []int{10, 12} {
		for _, tolerance := range []int{0, 1, 2, 20, 62, 63} {
			k := knownOf(depth, tolerance)
			for _, list := range k.quotients(&c, 500) {
				m, want := made(t, depth, tolerance), k.first()
				for i, q := range list {
					want = want.learn(k, q)
					m.Learn(11, q)
					if got := stats(m, 11); got != want || m.Param(11) != want.param() {
						t.Fatal(k, i, q, got, want, m.Param(11), want.param())
					}
				}
			}
		}
	}
}

func TestP9_5BehindEachLearn(t *testing.T) {
	c := chance(96)
	each(t, func(m *model.Model, k known) {
		for context, list := range k.quotients(&c, 200) {
			was := stats(m, context)
			for _, q := range list {
				m.Learn(context, q)
				now := stats(m, context)
				moved := max(now.bias-was.bias, was.bias-now.bias)
				if now.n < 2 || now.n > 64 || now.b <= -now.n || now.b > 0 || now.a < 0 || moved > 1 || now.bias < -128 || now.bias > 127 {
					t.Fatal(k, context, q, was, now)
				}
				was = now
			}
		}
	})
}

func TestP9_5NothingOfAnotherContextChanges(t *testing.T) {
	c := chance(97)
	m, k := made(t, 10, 1), knownOf(10, 1)
	var want [api.Contexts]four
	for i := range want {
		want[i] = k.first()
	}
	odd := []int{0, 1, 7, 363, 364}
	for range 3000 {
		context := c.below(api.Contexts)
		if c.below(2) == 0 {
			context = odd[c.below(len(odd))]
		}
		q := c.below(41) - 20
		m.Learn(context, q)
		want[context] = want[context].learn(k, q)
		for i := range want {
			if got := stats(m, i); got != want[i] {
				t.Fatal(context, q, i, got, want[i])
			}
		}
	}
}

func TestLearnOfNoContextDoesNothing(t *testing.T) {
	m, k := made(t, 12, 0), knownOf(12, 0)
	for _, context := range []int{math.MinInt, -365, -1, 365, 366, 1 << 20, math.MaxInt} {
		m.Learn(context, 100)
		if m.Param(context) != 0 || stats(m, context) != (four{}) {
			t.Error(context, m.Param(context), stats(m, context))
		}
	}
	for context := range api.Contexts {
		if stats(m, context) != k.first() {
			t.Error(context, stats(m, context))
		}
	}
}

func TestLearnAtTheEndsOfContexts(t *testing.T) {
	m, k := made(t, 10, 0), knownOf(10, 0)
	for _, context := range []int{0, 364} {
		m.Learn(context, -9)
		if got := stats(m, context); got != k.first().learn(k, -9) || got == k.first() {
			t.Error(context, got)
		}
	}
}

// Sixty-three noughts, and N is 64; the next one forgets half of what was there.
func TestLearnWhereNIsFull(t *testing.T) {
	m := made(t, 10, 0)
	for range 63 {
		m.Learn(3, 0)
	}
	if got := stats(m, 3); got != (four{16, 0, 0, 64}) {
		t.Error(got)
	}
	m.Learn(3, -3) // A 19, B -3: halved 9 and -2
	if got := stats(m, 3); got != (four{9, -2, 0, 33}) {
		t.Error(got)
	}
}

func TestLearnHalvesBRoundedDown(t *testing.T) {
	for q, b := range map[int]int{0: 0, -1: -1, -2: -1, -3: -2, -4: -2, -5: -3, -64: -32} {
		m := made(t, 10, 0)
		for range 63 {
			m.Learn(3, 0)
		}
		m.Learn(3, q)
		if got := stats(m, 3); got.b != b || got.bias != 0 || got.n != 33 || got.a != (16-q)/2 {
			t.Error(q, got)
		}
	}
	m := made(t, 10, 0)
	for range 63 {
		m.Learn(3, 0)
	}
	m.Learn(3, -66) // B -33, N 33: not above -N
	if got := stats(m, 3); got != (four{41, 0, -1, 33}) {
		t.Error(got)
	}
}

func TestLearnFollowsTheErrors(t *testing.T) {
	for _, x := range []struct {
		q    int
		want four
	}{
		{0, four{16, 0, 0, 2}},
		{-1, four{17, -1, 0, 2}},
		{-2, four{18, 0, -1, 2}},
		{-3, four{19, -1, -1, 2}},
		{-4, four{20, -1, -1, 2}},
		{-5, four{21, -1, -1, 2}},
		{1, four{17, -1, 1, 2}},
		{2, four{18, 0, 1, 2}},
		{3, four{19, 0, 1, 2}},
		{1024, four{1040, 0, 1, 2}},
		{1025, four{1040, 0, 1, 2}},
		{-1024, four{1040, -1, -1, 2}},
		{-1025, four{1040, -1, -1, 2}},
	} {
		m := made(t, 10, 0)
		m.Learn(5, x.q)
		if got := stats(m, 5); got != x.want {
			t.Error(x, got)
		}
	}
}

// The tolerance's step weighs in B, not in A.
func TestLearnWeighsBByTheStep(t *testing.T) {
	m := made(t, 10, 63)
	for range 20 {
		m.Learn(5, 0)
	}
	m.Learn(5, -1) // B -127, N 22: 22 more is -105, so that it is -21
	if got := stats(m, 5); got != (four{3, -21, -1, 22}) {
		t.Error(got)
	}
	m = made(t, 10, 2)
	for range 20 {
		m.Learn(5, 0)
	}
	m.Learn(5, -2)
	if got := stats(m, 5); got != (four{5, -10, 0, 22}) {
		t.Error(got)
	}
}

func TestLearnWhereTheBiasStandsAtItsEnds(t *testing.T) {
	for _, bias := range []int{-128, 127} {
		m, k := biased(t, 10, 0, bias), knownOf(10, 0)
		q := k.r
		if bias < 0 {
			q = -k.r
		}
		for range 100 {
			want := stats(m, 7).learn(k, q)
			m.Learn(7, q)
			if got := stats(m, 7); got != want || got.bias != bias {
				t.Fatal(bias, got, want)
			}
		}
		m.Learn(7, -q)
		if got := stats(m, 7); got.bias != bias+max(min(-q, 1), -1) {
			t.Error(bias, got)
		}
	}
}

func TestParamIsTheLeast(t *testing.T) {
	for _, x := range []struct{ depth, tolerance, q, want int }{
		{10, 0, 0, 3},     // A 16, N 2
		{10, 0, 1, 4},     // 17
		{10, 0, 16, 4},    // 32
		{10, 0, 17, 5},    // 33
		{10, 63, 0, 0},    // 2
		{10, 63, 1, 1},    // 3
		{12, 0, 4096, 12}, // 4160
		{12, 0, -4032, 11},
		{12, 0, -4033, 12},
	} {
		m := made(t, x.depth, x.tolerance)
		m.Learn(9, x.q)
		if got := m.Param(9); got != x.want {
			t.Error(x, got, stats(m, 9))
		}
	}
}

func TestParamOfAllModelsAndContexts(t *testing.T) {
	each(t, func(m *model.Model, k known) {
		for _, context := range []int{0, 1, 200, 363, 364} {
			if got := m.Param(context); got != k.first().param() {
				t.Error(k, context, got)
			}
		}
		for _, context := range []int{math.MinInt, -1, 365, math.MaxInt} {
			if got := m.Param(context); got != 0 {
				t.Error(k, context, got)
			}
		}
	})
}

func TestP9_6TwoThatLearntAlikeAnswerAlike(t *testing.T) {
	c := chance(98)
	m, twin, other := made(t, 10, 3), made(t, 10, 3), made(t, 10, 3)
	for range 20000 {
		context, q := c.below(api.Contexts), c.below(61)-30
		m.Learn(context, q)
		other.Learn(364-context, -q)
		// Asking teaches nothing.
		m.Find(q, context, 5, 6)
		m.Guess(context, q, 1, 2, 3)
		m.Shrink(q)
		m.Grow(q, q)
		m.Param(context)
		m.Stats(context)
		twin.Learn(context, q)
	}
	unlike := 0
	for context := range api.Contexts {
		if stats(m, context) != stats(twin, context) || m.Param(context) != twin.Param(context) {
			t.Error(context)
		}
		for _, sign := range []int{-1, 1} {
			if m.Guess(context, sign, 300, 500, 400) != twin.Guess(context, sign, 300, 500, 400) {
				t.Error(context, sign)
			}
		}
		if stats(m, context) != stats(other, context) {
			unlike++
		}
	}
	if unlike == 0 {
		t.Error("a model that learnt something else answers alike")
	}
}

func TestP4ModelsBesideOneAnother(t *testing.T) {
	c := chance(99)
	m, beside := made(t, 10, 0), made(t, 12, 5)
	k := knownOf(12, 5)
	for range 2000 {
		m.Learn(c.below(api.Contexts), c.below(41)-20)
	}
	for context := range api.Contexts {
		if stats(beside, context) != k.first() {
			t.Fatal(context, stats(beside, context))
		}
	}
	if beside.Range() != k.r || m.Range() != 1024 {
		t.Error(beside.Range(), m.Range())
	}
}

func TestS9ExampleOfLearning(t *testing.T) {
	m := made(t, 10, 0)
	if got := stats(m, 7); got != (four{16, 0, 0, 1}) {
		t.Error(got)
	}
	m.Learn(7, 3)
	if got := stats(m, 7); got != (four{19, 0, 1, 2}) {
		t.Error(got)
	}
	if m.Guess(7, 1, 5, 5, 5) != 6 || m.Guess(7, -1, 5, 5, 5) != 4 {
		t.Error(m.Guess(7, 1, 5, 5, 5), m.Guess(7, -1, 5, 5, 5))
	}
}
