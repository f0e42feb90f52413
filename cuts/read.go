package cuts

import (
	"errors"

	"dailies/api"
	"dailies/timecode"
)

// parser makes a list, line by line.
type parser struct {
	list  api.CutList
	begun bool // the line `list` was there
}

// takeLine reads a line; a line without words says nothing.
func (p *parser) takeLine(l line) error {
	if len(l.words) == 0 {
		return nil
	}
	first := l.words[0].at
	r := reader{line: l}
	if !p.begun {
		p.begun = true
		p.list = r.list()
		return r.err
	}
	if len(p.list.Events) == api.MaxEvents {
		return &api.Fault{At: first, Err: api.ErrCutsMany}
	}
	e, out := r.event(p.list.Rate)
	if r.err != nil {
		return r.err
	}
	p.list.Events = append(p.list.Events, e)
	return placed(checkEvent(p.list, len(p.list.Events)-1), first, out)
}

// placed is an event's error at its place in the text: that of its second time, if it is of times, else that of its line's first word.
func placed(err error, first, out int) error {
	var wrong *EventError
	if !errors.As(err, &wrong) {
		return nil
	}
	if errors.Is(err, api.ErrCutsTime) {
		return &api.Fault{At: out, Err: wrong.Err}
	}
	return &api.Fault{At: first, Err: wrong.Err}
}

// reader takes a line's words from the left. It goes on behind a wrong one, so that nobody need ask on the way; what it tells then is nothing.
type reader struct {
	line
	err error // the first word that is wrong
}

// refuse keeps what is wrong, if nothing was ahead of it.
func (r *reader) refuse(at int, e api.Errno) {
	if r.err == nil {
		r.err = &api.Fault{At: at, Err: e}
	}
}

// list reads the line `list`.
func (r *reader) list() api.CutList {
	var l api.CutList
	if w := r.next(plain); w.says != "list" {
		r.refuse(w.at, api.ErrCutsWord)
	}
	l.Rate = r.rate()
	l.Title = r.text()
	r.last()
	return l
}

// event reads the line of one, and tells the place of its second time.
func (r *reader) event(rate api.Rate) (api.Event, int) {
	var e api.Event
	switch w := r.next(plain); w.says {
	case "cut":
	case "fade":
		e.Fade = r.fade()
	default:
		r.refuse(w.at, api.ErrCutsWord)
	}
	e.Reel = r.name()
	e.In, _ = r.time(rate)
	n, out := r.time(rate)
	e.Out = n
	if len(r.words) > 0 {
		e.Note = r.text()
	}
	r.last()
	return e, out
}

// next takes the next word, which must be of this kind.
func (r *reader) next(k kind) word {
	if len(r.words) == 0 {
		r.refuse(r.end, api.ErrCutsWord)
		return word{}
	}
	w := r.words[0]
	r.words = r.words[1:]
	if w.kind != k {
		r.refuse(w.at, api.ErrCutsWord)
	}
	return w
}

// last sees to it that no word is left.
func (r *reader) last() {
	if len(r.words) > 0 {
		r.refuse(r.words[0].at, api.ErrCutsWord)
	}
}

// text takes a title or a note.
func (r *reader) text() string {
	w := r.next(text)
	if len(w.says) > api.MaxTitle {
		r.refuse(w.at, api.ErrCutsLong)
	}
	return w.says
}

// rate takes a RATE.
func (r *reader) rate() api.Rate {
	w := r.next(plain)
	// A plain word is never empty: none is that of the number 0.
	for rate, s := range rateWords {
		if s == w.says {
			return api.Rate(rate)
		}
	}
	r.refuse(w.at, api.ErrCutsWord)
	return 0
}

// name takes a NAME.
func (r *reader) name() string {
	w := r.next(plain)
	if !isName(w.says) {
		r.refuse(w.at, api.ErrCutsWord)
	}
	return w.says
}

// time takes a TIME, and tells its place.
func (r *reader) time(rate api.Rate) (int, int) {
	w := r.next(plain)
	n, err := timecode.Number(rate, w.says)
	if err != nil {
		r.refuse(w.at, api.ErrCutsTime)
	}
	return n, w.at
}

// fade takes an N.
func (r *reader) fade() int {
	w := r.next(plain)
	n, ok := fadeOf(w.says)
	if !ok {
		r.refuse(w.at, api.ErrCutsWord)
	}
	return n
}

// fadeOf is the number of an N: 1 to MaxFade, the first digit not 0.
func fadeOf(s string) (int, bool) {
	n := 0
	for _, d := range s {
		if d < '0' || d > '9' {
			return 0, false
		}
		n = 10*n + int(d-'0')
		// Asked digit by digit, so that a 0 ahead is found out and no number grows beyond its bounds.
		if n < 1 || n > api.MaxFade {
			return 0, false
		}
	}
	return n, n > 0
}
