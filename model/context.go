package model

// The degrees of a gradient.
const (
	level = iota
	slight
	marked
	steep
	sheer

	degrees = 2*sheer + 1 // with those of the gradients below 0
)

// edges are the least gradients above those that are slight, marked and steep.
type edges struct{ slight, marked, steep int }

func edgesOf(depth, tolerance int) edges {
	if depth == 10 {
		return edges{6 + 3*tolerance, 19 + 5*tolerance, 72 + 7*tolerance}
	}
	return edges{18 + 3*tolerance, 67 + 5*tolerance, 276 + 7*tolerance}
}

// Find tells the context of four neighbours (left, above, above left, above right), and its sign.
func (m *Model) Find(a int, b int, c int, d int) (int, int) {
	a, b, c, d = m.sample(a), m.sample(b), m.sample(c), m.sample(d)
	k := (m.degree(d-b)*degrees+m.degree(b-c))*degrees + m.degree(c-a)
	// Degrees weigh so that the first one that is not 0 outweighs those behind it: the number has its sign.
	if k < 0 {
		return -k, -1
	}
	return k, 1
}

func (m *Model) degree(gradient int) int {
	if gradient < 0 {
		return -m.size(-gradient)
	}
	return m.size(gradient)
}

// size tells the degree of a gradient that is not below 0.
func (m *Model) size(gradient int) int {
	switch {
	case gradient <= m.tolerance:
		return level
	case gradient < m.edges.slight:
		return slight
	case gradient < m.edges.marked:
		return marked
	case gradient < m.edges.steep:
		return steep
	}
	return sheer
}

// Med is the middle guess of three neighbours.
func Med(a int, b int, c int) int {
	low, high := min(a, b), max(a, b)
	if c >= high {
		return low
	}
	if c <= low {
		return high
	}
	// The sum may wrap round; what is taken away brings it back between a and b.
	return a + b - c
}

// Guess is what a sample is guessed to be.
func (m *Model) Guess(context int, sign int, a int, b int, c int) int {
	guess := Med(m.sample(a), m.sample(b), m.sample(c))
	if !known(context) {
		return guess
	}
	if sign < 0 {
		return m.sample(guess - m.learnt[context].bias)
	}
	return m.sample(guess + m.learnt[context].bias)
}
