package desk

import (
	"strconv"

	"dailies/api"
	"dailies/medium"
	"dailies/reel"
	"dailies/session"
)

// tape is a medium, and the recorder that was begun on it last; nil, if there is none.
type tape struct {
	medium   *medium.Medium
	recorder *session.Recorder
}

func (d *Desk) empty(l *line) deed {
	name := d.media.vacant(l)
	return func() string {
		d.media.lay(name, &tape{medium: medium.New()})
		return done
	}
}

func (d *Desk) record(l *line) deed {
	x, rate, start, title := d.media.thing(l), l.number(), l.number(), l.rest()
	return func() string {
		r := right(session.Record(x.medium))
		must(r.Open(api.Label{Title: title, Rate: api.Rate(rate), Start: start}))
		x.recorder = r
		return done
	}
}

func (d *Desk) goOn(l *line) deed {
	x := d.media.thing(l)
	return func() string {
		r := right(session.Record(x.medium))
		must(r.Continue())
		x.recorder = r
		return done
	}
}

// recorder is that of the medium whose name a line has next; nil, if there is none.
func (d *Desk) recorder(l *line) *session.Recorder {
	x := d.media.thing(l)
	if x == nil || x.recorder == nil {
		l.amiss = true
		return nil
	}
	return x.recorder
}

func (d *Desk) write(l *line) deed {
	r, f := d.recorder(l), d.frames.thing(l)
	return func() string {
		must(r.Set(d.coding))
		x := right(r.Write(f))
		return strconv.Itoa(x.Receipt.Number) + " at " + strconv.Itoa(x.Receipt.At) + " length " + codedText(x.Receipt.Length, x.Step, x.Rung)
	}
}

func (d *Desk) finish(l *line) deed {
	r := d.recorder(l)
	return func() string {
		must(r.Finish())
		return done
	}
}

func (d *Desk) die(l *line) deed {
	x, n, keep := d.media.thing(l), l.number(), l.number()
	return func() string {
		must(x.medium.Arm(n, keep))
		return done
	}
}

func (d *Desk) revive(l *line) deed {
	x := d.media.thing(l)
	return func() string {
		x.medium.Revive()
		return done
	}
}

func (d *Desk) truncate(l *line) deed {
	x, n := d.media.thing(l), l.number()
	return func() string { return x.befallen(x.medium.Truncate(n)) }
}

func (d *Desk) over(l *line) deed {
	x, at, b := d.media.thing(l), l.number(), l.hex()
	return func() string { return x.befallen(x.medium.Overwrite(at, b)) }
}

// befallen lets go of the recorder behind whose back the medium was changed.
func (x *tape) befallen(e api.Errno) string {
	must(e)
	x.recorder = nil
	return done
}

func (d *Desk) size(l *line) deed {
	x := d.media.thing(l)
	return func() string { return bytesText(x.medium.Bytes()) }
}

func (d *Desk) open(l *line) deed {
	x := d.media.thing(l)
	return func() string {
		r := right(reel.Open(x.medium))
		label := r.Label()
		return "frames " + strconv.Itoa(r.Count()) + " finished " + strconv.Itoa(bit(r.Finished())) + " rate " + strconv.Itoa(int(label.Rate)) + " start " + strconv.Itoa(label.Start) + " title " + label.Title
	}
}

// playerAt is a player of the medium's reel that stands at a frame.
func (x *tape) playerAt(i int) *session.Player {
	p := right(session.Play(x.medium, api.MaxSamples))
	must(p.Seek(i))
	return p
}

func (d *Desk) play(l *line) deed {
	name, x, i := d.frames.place(l), d.media.thing(l), l.number()
	return func() string {
		f, report, e := x.playerAt(i).Next()
		must(e)
		return d.laySeen(name, f, report)
	}
}

func (d *Desk) reads(l *line) deed {
	x, i, k := d.media.thing(l), l.number(), l.number()
	return func() string {
		p := x.playerAt(i)
		x.medium.Forget()
		_, _, e := p.Slice(k)
		must(e)
		text := "reads"
		for _, span := range x.medium.Log() {
			text += " " + strconv.Itoa(span.At) + "+" + strconv.Itoa(span.Length)
		}
		return text
	}
}

func (d *Desk) remake(l *line) deed {
	name, x := d.media.vacant(l), d.media.thing(l)
	return func() string {
		p := right(session.Play(x.medium, api.MaxSamples))
		to := medium.New()
		n := right(p.Regenerate(to))
		d.media.lay(name, &tape{medium: to})
		return strconv.Itoa(n) + " frames"
	}
}
