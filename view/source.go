package view

import (
	"bytes"

	"dailies/api"
)

// held is bytes in memory. It is handed out by its address, so that sources can be held against each other.
type held struct{ bytes []byte }

// Of is bytes as a source.
func Of(b []byte) api.Source { return &held{bytes.Clone(b)} }

// Size tells how many bytes there are.
func (h *held) Size() int { return len(h.bytes) }

// Read tells n bytes from a place on.
func (h *held) Read(at int, n int) ([]byte, api.Errno) {
	// What is left behind the place is asked, since at and n together could go round.
	if at < 0 || n < 0 || n > len(h.bytes)-at {
		return nil, api.ErrMediumRange
	}
	b := make([]byte, n)
	copy(b, h.bytes[at:])
	return b, api.OK
}
