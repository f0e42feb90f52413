package conform

import (
	"slices"

	"dailies/api"
	"dailies/picture"
	"dailies/reel"
	"dailies/view"
)

// builder lays a list's steps down.
type builder struct {
	reels  map[string]*reel.Reel
	config api.Config
	limit  int // of a frame's samples
	writer *reel.Writer
	kept   map[place]look // what was decoded and is mixed once more by the fade that goes on
	built  api.Built
}

// place is a record of a reel.
type place struct {
	reel   string
	record int
}

// look is what was decoded of a record.
type look struct {
	frame   api.Frame
	damaged bool
}

// lay makes the record of a step, and puts it behind the others.
func (b *builder) lay(s Step) api.Errno {
	record, e := b.record(s)
	if e != api.OK {
		return e
	}
	if _, e := b.writer.Add(record); e != api.OK {
		return e
	}
	b.built.Frames++
	if s.isCopied() {
		b.built.Copied++
	} else {
		b.built.Mixed++
	}
	return api.OK
}

// record is that of a step.
func (b *builder) record(s Step) ([]byte, api.Errno) {
	if s.isCopied() {
		return b.copied(s)
	}
	return b.mixed(s)
}

// copied is a record as it is.
func (b *builder) copied(s Step) ([]byte, api.Errno) {
	src, e := b.reels[s.Reel].Record(s.Frame)
	if e != api.OK {
		return nil, e
	}
	return src.Read(0, src.Size())
}

// mixed is the record of two frames that are mixed.
func (b *builder) mixed(s Step) ([]byte, api.Errno) {
	from, over := place{s.Reel, s.Frame}, place{s.Over, s.With}
	first, e := b.decoded(from)
	if e != api.OK {
		return nil, e
	}
	second, e := b.decoded(over)
	if e != api.OK {
		return nil, e
	}
	if first.damaged || second.damaged {
		return nil, api.ErrSessionDamage
	}
	b.forget(s, from)
	b.forget(s, over)
	// Both frames were told by view, and the parts are a plan's: nothing but their shapes can be refused.
	f, e := Mix(first.frame, second.frame, s.Part, s.Of)
	if e != api.OK {
		return nil, e
	}
	x, e := picture.Encode(f, b.config)
	return x.Bytes, e
}

// decoded is what a record has, looked at once for all steps of a fade.
func (b *builder) decoded(p place) (look, api.Errno) {
	if x, there := b.kept[p]; there {
		return x, api.OK
	}
	src, e := b.reels[p.reel].Record(p.record)
	if e != api.OK {
		return look{}, e
	}
	f, report, e := view.Whole(src, b.limit)
	if e != api.OK {
		return look{}, e
	}
	x := look{frame: f, damaged: slices.Contains(report.Marks, api.Lost)}
	b.kept[p] = x
	return x, api.OK
}

// forget lets go of a frame that no later step of the same fade takes, so that no more frames are kept than one fade has.
func (b *builder) forget(s Step, p place) {
	if !s.takesLater(p) {
		delete(b.kept, p)
	}
}

// isCopied tells whether a step takes a record as it is. (No reel's name is empty.)
func (s Step) isCopied() bool { return s.Over == "" }

// takesLater tells whether a step behind this one, of the same fade, takes a record: both its sides rise by one from step to step.
func (s Step) takesLater(p place) bool {
	left := s.Of - 1 - s.Part
	return p.reel == s.Reel && p.record > s.Frame && p.record <= s.Frame+left ||
		p.reel == s.Over && p.record > s.With && p.record <= s.With+left
}
