package session

import (
	"dailies/api"
	"dailies/medium"
	"dailies/reel"
	"dailies/view"
)

// stage is what a recorder may do: each of its kinds has just what the calls need that go then.
type stage interface {
	// settable tells whether a configuration may be set: the one call that goes in more than one stage.
	settable() bool
}

// fresh is the stage of a recorder that is new: a reel may be begun on its medium.
type fresh struct{ medium *medium.Medium }

// open is the stage in which frames may be written, and the reel be finished.
type open struct {
	writer *reel.Writer
	shape  api.Shape // the empty one, which no frame has, as long as frames of any shape are taken
}

// done is the stage in which nothing goes any more.
type done struct{}

func (fresh) settable() bool { return true }
func (*open) settable() bool { return true }
func (done) settable() bool  { return false }

// takes tells whether a frame of this shape may be written.
func (o *open) takes(s api.Shape) bool { return o.shape == (api.Shape{}) || o.shape == s }

// begin lets a recorder that is new be open, if the reel can be begun.
func (r *Recorder) begin(start func(*medium.Medium) (*open, api.Errno)) api.Errno {
	switch s := r.stage.(type) {
	case fresh:
		o, e := start(s.medium)
		if e == api.OK {
			r.stage = o
		}
		return e
	default:
		return api.ErrSessionState
	}
}

// opened is the stage of a recorder that is open; nil of another one.
func (r *Recorder) opened() *open {
	switch s := r.stage.(type) {
	case *open:
		return s
	default:
		return nil
	}
}

// failed lets a recorder be done, if an error is one behind which the medium may have kept a part of what was laid down.
func (r *Recorder) failed(e api.Errno) {
	if e == api.ErrMediumDead || e == api.ErrMediumFull {
		r.end()
	}
}

// end lets a recorder be done; nothing that it had is needed any more.
func (r *Recorder) end() { *r = Recorder{stage: done{}} }

// firstShape is that of the first record of the reel on a medium; the empty one, if there is none, or its head is refused.
func firstShape(m *medium.Medium) api.Shape {
	r, e := reel.Open(m)
	if e != api.OK {
		return api.Shape{}
	}
	record, e := r.Record(0)
	if e != api.OK {
		return api.Shape{}
	}
	h, _ := view.Head(record)
	return h.Shape
}
