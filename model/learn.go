package model

import "dailies/api"

const (
	full      = 64 // so many counted, the older half is forgotten
	leastBias = -128
	mostBias  = 127
)

// stats are what one context has learnt.
type stats struct {
	sum   int // A: of the quotients' magnitudes
	drift int // B: of the errors, since the bias last followed them
	bias  int
	count int // N
}

func unlearnt(reach int) stats { return stats{sum: max((reach+32)/64, 2), count: 1} }

func known(context int) bool { return context >= 0 && context < api.Contexts }

// Param is golomb's parameter in a context.
func (m *Model) Param(context int) int {
	if !known(context) {
		return 0
	}
	s := m.learnt[context]
	k := 0
	for k < api.MaxParam && s.count<<k < s.sum {
		k++
	}
	return k
}

// Learn takes a quotient in.
func (m *Model) Learn(context int, q int) {
	if !known(context) {
		return
	}
	q = m.quotient(q)
	s := &m.learnt[context]
	s.sum += magnitude(q)
	s.drift += q * m.step
	s.age()
	s.follow()
}

func (s *stats) age() {
	if s.count == full {
		s.sum >>= 1
		s.drift >>= 1 // rounds down below 0 too, as a division does not
		s.count = full / 2
	}
	s.count++
}

func (s *stats) follow() {
	if s.drift <= -s.count {
		s.bias = max(s.bias-1, leastBias)
		s.drift = max(s.drift+s.count, 1-s.count)
	} else if s.drift > 0 {
		s.bias = min(s.bias+1, mostBias)
		s.drift = min(s.drift-s.count, 0)
	}
}

// Stats tells what a context has learnt.
func (m *Model) Stats(context int) (int, int, int, int) {
	if !known(context) {
		return 0, 0, 0, 0
	}
	s := m.learnt[context]
	return s.sum, s.drift, s.bias, s.count
}
