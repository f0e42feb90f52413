package medium

import "dailies/api"

// piece is a part of a medium. It is handed out by its address, so that sources can be held against each other.
type piece struct {
	of   *Medium
	part api.Span
}

// Size tells how many bytes the part had when it was asked for.
func (p *piece) Size() int { return p.part.Length }

// Read tells n bytes of the part, as the medium has them now.
func (p *piece) Read(at int, n int) ([]byte, api.Errno) { return p.of.readWithin(p.part, at, n) }
