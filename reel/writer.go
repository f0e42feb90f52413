package reel

import (
	"dailies/api"
	"dailies/medium"
	"dailies/picture"
)

// Writer makes a reel.
type Writer struct {
	medium *medium.Medium
	links  []int // the place of each record's link
	done   bool  // finished, or given up
}

// Create begins one on an empty medium.
func Create(m *medium.Medium, l api.Label) (*Writer, api.Errno) {
	if m == nil {
		return nil, api.ErrArg
	}
	if !mayBe(l) {
		return nil, api.ErrReelLabel
	}
	if m.Size() > 0 {
		return nil, api.ErrReelThere
	}
	if _, e := m.Append(labelBytes(l)); e != api.OK {
		return nil, e
	}
	return &Writer{medium: m}, api.OK
}

// Continue goes on behind the last whole record of one that is not finished; what stands behind that is cut off.
func Continue(m *medium.Medium) (*Writer, api.Errno) {
	r, e := Open(m)
	if e != api.OK {
		return nil, e
	}
	if r.Finished() {
		return nil, api.ErrReelDone
	}
	if end := r.end(); m.Size() > end {
		if e := m.Truncate(end); e != api.OK {
			return nil, e
		}
	}
	return &Writer{medium: m, links: r.links()}, api.OK
}

// Add lays a record down.
func (w *Writer) Add(record []byte) (api.Receipt, api.Errno) {
	if w.done {
		return api.Receipt{}, api.ErrReelDone
	}
	if h, e := picture.Head(record); e != api.OK || h.Length != len(record) {
		return api.Receipt{}, api.ErrReelRecord
	}
	if w.Count() == api.MaxFrames {
		return api.Receipt{}, api.ErrReelMany
	}
	number := w.Count()
	at, e := w.lay(append(linkBytes(number, len(record)), record...))
	if e != api.OK {
		return api.Receipt{}, e
	}
	w.links = append(w.links, at)
	return api.Receipt{Number: number, At: at + linkSize, Length: len(record)}, api.OK
}

// Count tells how many there are.
func (w *Writer) Count() int { return len(w.links) }

// Finish lays down the index and the foot.
func (w *Writer) Finish() (api.Receipt, api.Errno) {
	if w.done {
		return api.Receipt{}, api.ErrReelDone
	}
	b := endBytes(w.links, w.medium.Size())
	at, e := w.lay(b)
	if e != api.OK {
		return api.Receipt{}, e
	}
	w.done = true
	return api.Receipt{Number: w.Count(), At: at, Length: len(b)}, api.OK
}

// lay appends bytes. A writer whose medium refuses is given up: a part may have stayed, and nothing behind that would be found.
func (w *Writer) lay(b []byte) (int, api.Errno) {
	at, e := w.medium.Append(b)
	if e != api.OK {
		w.done = true
	}
	return at, e
}
