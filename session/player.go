package session

import (
	"slices"

	"dailies/api"
	"dailies/medium"
	"dailies/picture"
	"dailies/reel"
	"dailies/view"
)

// Player reads a reel.
type Player struct {
	reel  *reel.Reel
	limit int // of a frame's samples
	at    int
}

// Play opens one; frames of more samples than the limit are refused.
func Play(m *medium.Medium, limit int) (*Player, api.Errno) {
	if m == nil || limit < 0 {
		return nil, api.ErrArg
	}
	r, e := reel.Open(m)
	if e != api.OK {
		return nil, e
	}
	return &Player{reel: r, limit: limit}, api.OK
}

// Label is the reel's.
func (p *Player) Label() api.Label { return p.reel.Label() }

// Count tells how many frames there are.
func (p *Player) Count() int { return p.reel.Count() }

// At tells where it stands.
func (p *Player) At() int { return p.at }

// Seek goes to a frame.
func (p *Player) Seek(i int) api.Errno {
	if i < 0 || i > p.Count() {
		return api.ErrSessionSeek
	}
	p.at = i
	return api.OK
}

// Next reads the frame where it stands, and goes on.
func (p *Player) Next() (api.Frame, api.Report, api.Errno) {
	record, e := p.here()
	if e != api.OK {
		return api.Frame{}, api.Report{}, e
	}
	f, report, e := view.Whole(record, p.limit)
	if e == api.OK {
		p.at++
	}
	return f, report, e
}

// Slice reads a slice of the frame where it stands.
func (p *Player) Slice(k int) ([]api.Block, api.Report, api.Errno) {
	record, e := p.here()
	if e != api.OK {
		return nil, api.Report{}, e
	}
	return view.Slice(record, k, p.limit)
}

// Region reads a rectangle of the frame where it stands.
func (p *Player) Region(r api.Rect) (api.Frame, api.Report, api.Errno) {
	record, e := p.here()
	if e != api.OK {
		return api.Frame{}, api.Report{}, e
	}
	return view.Region(record, r, p.limit)
}

// Regenerate makes the reel again on another medium, each frame decoded and coded anew.
func (p *Player) Regenerate(to *medium.Medium) (int, api.Errno) {
	// A medium that is nil is refused by Create.
	w, e := reel.Create(to, p.Label())
	if e != api.OK {
		return 0, e
	}
	for i := range p.Count() {
		if e := p.remake(i, w); e != api.OK {
			return 0, e
		}
	}
	if p.reel.Finished() {
		if _, e := w.Finish(); e != api.OK {
			return 0, e
		}
	}
	return p.Count(), api.OK
}

// here is the record where it stands.
func (p *Player) here() (api.Source, api.Errno) {
	if p.at == p.Count() {
		return nil, api.ErrSessionSeek
	}
	return p.reel.Record(p.at)
}

// remake decodes a record, codes its frame as it was coded, and lays that down.
func (p *Player) remake(i int, w *reel.Writer) api.Errno {
	record, e := p.reel.Record(i)
	if e != api.OK {
		return e
	}
	f, report, e := view.Whole(record, p.limit)
	if e != api.OK {
		return e
	}
	if slices.Contains(report.Marks, api.Lost) {
		return api.ErrSessionDamage
	}
	x, e := picture.Encode(f, picture.Pinned(report.Head))
	if e != api.OK {
		return e
	}
	_, e = w.Add(x.Bytes)
	return e
}
