package model_test

import (
	"math"
	"testing"

	"dailies/api"
	"dailies/model"
)

// degree is a gradient's, by its words: how many of the bounds it is not within.
func (k known) degree(g int) int {
	bounds := [4]int{k.d + 1, 6 + 3*k.d, 19 + 5*k.d, 72 + 7*k.d}
	if k.max == 4095 {
		bounds = [4]int{k.d + 1, 18 + 3*k.d, 67 + 5*k.d, 276 + 7*k.d}
	}
	sum := 0
	for _, bound := range bounds {
		if g >= bound {
			sum++
		}
		if -g >= bound {
			sum--
		}
	}
	return sum
}

func (k known) find(a, b, c, d int) (int, int) {
	a, b, c, d = cut(a, 0, k.max), cut(b, 0, k.max), cut(c, 0, k.max), cut(d, 0, k.max)
	told := [3]int{k.degree(d - b), k.degree(b - c), k.degree(c - a)}
	sign := 1
	for _, degree := range told {
		if degree != 0 {
			if degree < 0 {
				sign = -1
			}
			break
		}
	}
	return sign * (81*told[0] + 9*told[1] + told[2]), sign
}

// edges are gradients at the tolerance, T1, T2 and T3, and beside them.
func (k known) edges() []int {
	t1, t2, t3 := 6+3*k.d, 19+5*k.d, 72+7*k.d
	if k.max == 4095 {
		t1, t2, t3 = 18+3*k.d, 67+5*k.d, 276+7*k.d
	}
	list := []int{0, k.max}
	for _, edge := range []int{k.d, t1, t2, t3} {
		for _, g := range []int{edge - 1, edge, edge + 1} {
			if g >= 0 {
				list = append(list, g)
			}
		}
	}
	for _, g := range list {
		list = append(list, -g)
	}
	return list
}

func TestFindTellsEachDegreeAtItsEdges(t *testing.T) {
	each(t, func(m *model.Model, k known) {
		for _, g := range k.edges() {
			// Both neighbours lie in the depth, g apart; the first gradient alone is told, then the second, then the third.
			low, high := 0, g
			if g < 0 {
				low, high = -g, 0
			}
			degree := k.degree(g)
			size, sign := max(degree, -degree), 1
			if degree < 0 {
				sign = -1
			}
			for place, n := range [][4]int{{low, low, low, high}, {low, high, low, high}, {low, high, high, high}} {
				weight := []int{81, 9, 1}[place]
				if c, s := m.Find(n[0], n[1], n[2], n[3]); c != size*weight || s != sign {
					t.Fatal(k, g, n, c, s)
				}
			}
		}
	})
}

// The same numbers, written out for two models, so that no rule of the test's own can be wrong.
func TestFindWrittenOut(t *testing.T) {
	for _, x := range []struct{ depth, tolerance, gradient, degree int }{
		{10, 0, 0, 0}, {10, 0, 1, 1}, {10, 0, 5, 1}, {10, 0, 6, 2}, {10, 0, 18, 2}, {10, 0, 19, 3}, {10, 0, 71, 3}, {10, 0, 72, 4}, {10, 0, 1023, 4},
		{10, 63, 63, 0}, {10, 63, 64, 1}, {10, 63, 194, 1}, {10, 63, 195, 2}, {10, 63, 333, 2}, {10, 63, 334, 3}, {10, 63, 512, 3}, {10, 63, 513, 4},
		{12, 0, 1, 1}, {12, 0, 17, 1}, {12, 0, 18, 2}, {12, 0, 66, 2}, {12, 0, 67, 3}, {12, 0, 275, 3}, {12, 0, 276, 4}, {12, 0, 4095, 4},
		{12, 2, 2, 0}, {12, 2, 3, 1}, {12, 2, 23, 1}, {12, 2, 24, 2}, {12, 2, 76, 2}, {12, 2, 77, 3}, {12, 2, 289, 3}, {12, 2, 290, 4},
	} {
		m := made(t, x.depth, x.tolerance)
		if c, s := m.Find(0, 0, 0, x.gradient); c != 81*x.degree || s != 1 {
			t.Error(x, c, s)
		}
		if c, _ := m.Find(x.gradient, 0, 0, 0); c != x.degree {
			t.Error(x, c)
		}
	}
}

// seen are neighbours by chance: some far from one another, some near, some beyond the depth.
func (k known) seen(c *chance) (n [4]int) {
	edges := k.edges()
	base := c.below(k.max + 1)
	for i := range n {
		switch c.below(4) {
		case 0:
			n[i] = c.below(3*k.max) - k.max
		case 1:
			n[i] = base
		default:
			n[i] = base + edges[c.below(len(edges))]
		}
	}
	return n
}

func TestFindAgainstItsWords(t *testing.T) {
	c := chance(92)
	each(t, func(m *model.Model, k known) {
		for range 3000 {
			n := k.seen(&c)
			got, sign := m.Find(n[0], n[1], n[2], n[3])
			if want, wantSign := k.find(n[0], n[1], n[2], n[3]); got != want || sign != wantSign {
				t.Fatal(k, n, got, sign, want, wantSign)
			}
		}
	})
}

func TestFindCutsNeighboursIntoTheDepth(t *testing.T) {
	each(t, func(m *model.Model, k known) {
		beyond := [][2]int{{math.MinInt, 0}, {-1, 0}, {k.max + 1, k.max}, {math.MaxInt, k.max}, {k.max / 2, k.max / 2}}
		for _, a := range beyond {
			for _, b := range beyond {
				for _, c := range beyond {
					for _, d := range beyond {
						got, sign := m.Find(a[0], b[0], c[0], d[0])
						want, wantSign := m.Find(a[1], b[1], c[1], d[1])
						if got != want || sign != wantSign {
							t.Fatal(k, a, b, c, d, got, sign)
						}
					}
				}
			}
		}
	})
}

// All contexts are there, and unlike degrees have unlike ones.
func TestFindTellsAllContexts(t *testing.T) {
	m := made(t, 10, 0)
	told := map[int][3]int{}
	for first := -100; first <= 100; first += 4 {
		for second := -100; second <= 100; second += 4 {
			for third := -100; third <= 100; third += 4 {
				c := 500
				b := c + second
				d, a := b+first, c-third
				k := knownOf(10, 0)
				degrees := [3]int{k.degree(first), k.degree(second), k.degree(third)}
				context, sign := m.Find(a, b, c, d)
				if context < 0 || context >= api.Contexts || sign != 1 && sign != -1 || context == 0 && (sign != 1 || degrees != [3]int{}) {
					t.Fatal(a, b, c, d, context, sign)
				}
				degrees = [3]int{sign * degrees[0], sign * degrees[1], sign * degrees[2]}
				if was, ok := told[context]; ok && was != degrees {
					t.Fatal(context, was, degrees)
				}
				told[context] = degrees
			}
		}
	}
	if len(told) != api.Contexts {
		t.Error(len(told))
	}
}

func TestP9_4NeighboursTurnedRound(t *testing.T) {
	c := chance(93)
	each(t, func(m *model.Model, k known) {
		for range 2000 {
			n := k.seen(&c)
			for i := range n {
				n[i] = cut(n[i], 0, k.max)
			}
			context, sign := m.Find(n[0], n[1], n[2], n[3])
			turned, other := m.Find(k.max-n[0], k.max-n[1], k.max-n[2], k.max-n[3])
			if context == 0 {
				sign = -1
			}
			if turned != context || other != -sign {
				t.Fatal(k, n, context, sign, turned, other)
			}
		}
	})
}

func TestS9ExamplesOfContexts(t *testing.T) {
	m := made(t, 10, 0)
	for _, x := range [][6]int{{10, 10, 10, 10, 0, 1}, {10, 20, 10, 20, 18, 1}, {20, 10, 20, 10, 18, -1}} {
		if c, s := m.Find(x[0], x[1], x[2], x[3]); c != x[4] || s != x[5] {
			t.Error(x, c, s)
		}
	}
}

// biased is a model in whose context 7 the bias stands at a number.
func biased(t *testing.T, depth, tolerance, bias int) *model.Model {
	t.Helper()
	m := made(t, depth, tolerance)
	q := 1
	if bias < 0 {
		q = -1
	}
	for range 1 << 16 {
		if _, _, now, _ := m.Stats(7); now == bias {
			return m
		}
		m.Learn(7, q*m.Range())
	}
	t.Fatal(depth, tolerance, bias)
	return nil
}

func TestGuessAddsTheBiasByItsSign(t *testing.T) {
	for _, depth := range []int{10, 12} {
		for _, bias := range []int{-128, -127, -1, 0, 1, 5, 126, 127} {
			m, k := biased(t, depth, 1, bias), knownOf(depth, 1)
			values := []int{math.MinInt, -1, 0, 1, 100, 127, 128, k.max - 128, k.max - 127, k.max, k.max + 1, math.MaxInt}
			for _, a := range values {
				for _, b := range values {
					for _, c := range values {
						med := wideMed(cut(a, 0, k.max), cut(b, 0, k.max), cut(c, 0, k.max))
						for sign, want := range map[int]int{
							math.MinInt: med - bias, -2: med - bias, -1: med - bias, 0: med + bias, 1: med + bias, 2: med + bias, math.MaxInt: med + bias,
						} {
							if got := m.Guess(7, sign, a, b, c); got != cut(want, 0, k.max) {
								t.Fatal(depth, bias, a, b, c, sign, got, want)
							}
						}
					}
				}
			}
		}
	}
}

func TestGuessOfNoContextHasNoBias(t *testing.T) {
	m := made(t, 10, 0)
	for c := range api.Contexts {
		m.Learn(c, 100)
	}
	for _, c := range []int{math.MinInt, -7, -1, api.Contexts, api.Contexts + 7, math.MaxInt} {
		for _, sign := range []int{-1, 0, 1} {
			if got := m.Guess(c, sign, 30, 80, 50); got != 60 {
				t.Error(c, sign, got)
			}
			if got := m.Guess(c, sign, 2000, -5, 2000); got != 0 {
				t.Error(c, sign, got)
			}
		}
	}
	for _, c := range []int{0, 364} {
		if m.Guess(c, 1, 5, 5, 5) != 6 || m.Guess(c, 0, 5, 5, 5) != 6 || m.Guess(c, -1, 5, 5, 5) != 4 {
			t.Error(c)
		}
	}
}
