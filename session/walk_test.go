package session_test

import (
	"bytes"
	"reflect"
	"slices"
	"testing"

	"dailies/api"
	"dailies/medium"
	"dailies/picture"
	"dailies/plane"
	"dailies/reel"
	"dailies/session"
	"dailies/view"
)

// said is a recorder by the chapter's words, over a medium of its own, step by step by the layers below.
type said struct {
	m                *medium.Medium
	open, done       bool
	configured, seen bool
	config           api.Config
	shape            api.Shape
	w                *reel.Writer
}

func (s *said) begin(w *reel.Writer, e api.Errno) api.Errno {
	if e == api.OK {
		s.open, s.w = true, w
	}
	return e
}

func (s *said) Open(l api.Label) api.Errno {
	if s.open || s.done {
		return api.ErrSessionState
	}
	return s.begin(reel.Create(s.m, l))
}

func (s *said) Continue() api.Errno {
	if s.open || s.done {
		return api.ErrSessionState
	}
	e := s.begin(reel.Continue(s.m))
	if e != api.OK || s.w.Count() == 0 {
		return e
	}
	r, _ := reel.Open(s.m)
	src, _ := r.Record(0)
	if h, e := view.Head(src); e == api.OK {
		s.shape, s.seen = h.Shape, true
	}
	return e
}

func (s *said) Set(c api.Config) api.Errno {
	if s.done {
		return api.ErrSessionState
	}
	s.config, s.configured = c, true
	s.config.Ladder = append([]api.Rung(nil), c.Ladder...)
	return api.OK
}

func (s *said) fails(e api.Errno) {
	if e == api.ErrMediumDead || e == api.ErrMediumFull {
		s.open, s.done = false, true
	}
}

func (s *said) Write(f api.Frame) (api.Written, api.Errno) {
	if !s.open || !s.configured {
		return api.Written{}, api.ErrSessionState
	}
	if e := plane.Valid(f); e != api.OK {
		return api.Written{}, e
	}
	if s.seen && s.shape != f.Shape {
		return api.Written{}, api.ErrSessionFrame
	}
	x, e := picture.Encode(f, s.config)
	if e != api.OK {
		return api.Written{}, e
	}
	receipt, e := s.w.Add(x.Bytes)
	if e != api.OK {
		s.fails(e)
		return api.Written{}, e
	}
	s.shape, s.seen = f.Shape, true
	return api.Written{Receipt: receipt, Step: x.Step, Rung: x.Rung}, api.OK
}

func (s *said) Finish() api.Errno {
	if !s.open {
		return api.ErrSessionState
	}
	_, e := s.w.Finish()
	s.fails(e)
	if e == api.OK {
		s.open, s.done = false, true
	}
	return e
}

// both is what the program's recorder and the one by the chapter's words have in common.
type both interface {
	Open(api.Label) api.Errno
	Continue() api.Errno
	Set(api.Config) api.Errno
	Write(api.Frame) (api.Written, api.Errno)
	Finish() api.Errno
}

// told is what a call of either answered.
type told struct {
	written api.Written
	fault   api.Errno
}

// step is one call, or one thing that befalls the medium, as chance has it.
func step(c *chance) func(m *medium.Medium, r both) told {
	plainly := func(call func(m *medium.Medium, r both) api.Errno) func(m *medium.Medium, r both) told {
		return func(m *medium.Medium, r both) told { return told{fault: call(m, r)} }
	}
	switch k := c.below(24); k {
	case 0, 1:
		l := []api.Label{label(), label(), {Title: "b", Rate: 1}, {}}[c.below(4)]
		return plainly(func(_ *medium.Medium, r both) api.Errno { return r.Open(l) })
	case 2, 3:
		return plainly(func(_ *medium.Medium, r both) api.Errno { return r.Continue() })
	case 4, 5, 6:
		config := []api.Config{plain(), by(0, api.Rung{}, api.Rung{9, 9, 9, 0}), by(2, api.Rung{3, 1, 2, 0}), {}, tight(), by(1, api.Rung{1, 1, 1, 1})}[c.below(6)]
		if c.below(4) == 0 {
			config.Cap = 300 + c.below(1200)
		}
		return plainly(func(_ *medium.Medium, r both) api.Errno { return r.Set(config) })
	case 7:
		return plainly(func(_ *medium.Medium, r both) api.Errno { return r.Finish() })
	case 8:
		n, keep := 1+c.below(3), c.below(700)
		return plainly(func(m *medium.Medium, _ both) api.Errno { return m.Arm(n, keep) })
	case 9, 10:
		return plainly(func(m *medium.Medium, _ both) api.Errno { m.Revive(); return api.OK })
	case 11:
		f := noFrames()[[]api.Errno{api.ErrPlaneShape, api.ErrPlanePlanes, api.ErrPlaneSize, api.ErrPlaneSample}[c.below(4)]]
		return func(_ *medium.Medium, r both) told { x, e := r.Write(f); return told{x, e} }
	}
	s := shapes()[0]
	if c.below(5) == 0 {
		s = shapes()[c.below(len(shapes()))]
	}
	f := noisy(c, s)
	return func(_ *medium.Medium, r both) told { x, e := r.Write(f); return told{x, e} }
}

// R1 to R5: any calls one behind the other, on media that any things befall, are answered as by the chapter's words, and leave the same bytes; new recorders take the place of those that are done.
func TestRecordersByTheChaptersWords(t *testing.T) {
	c := chance(1700)
	seen := map[api.Errno]int{}
	records := 0
	for range 150 {
		m, n := medium.New(), medium.New()
		r, s := recorder(t, m), &said{m: n}
		for i := range 40 {
			if s.done && c.below(4) == 0 {
				// As a new session would: from here on the old recorder is not used.
				if cut := n.Size() - c.below(3)*c.below(60); cut >= 0 && c.below(2) == 0 {
					m.Truncate(cut)
					n.Truncate(cut)
				}
				r, s = recorder(t, m), &said{m: n}
			}
			call := step(&c)
			want, got := call(n, s), call(m, r)
			if got != want {
				t.Fatalf("call %d: %+v, not %+v", i, got, want)
			}
			if !bytes.Equal(m.Bytes(), n.Bytes()) || m.Dead() != n.Dead() {
				t.Fatal("call", i, "left other bytes, or another medium")
			}
			seen[got.fault]++
		}
		m.Revive()
		if p, e := session.Play(m, api.MaxSamples); e == api.OK {
			records += p.Count()
			plays(t, &c, m, p)
		}
	}
	for _, e := range []api.Errno{api.OK, api.ErrSessionState, api.ErrSessionFrame, api.ErrPictureConfig, api.ErrCap, api.ErrMediumDead, api.ErrReelThere, api.ErrReelNone, api.ErrReelLabel, api.ErrReelDone} {
		if seen[e] == 0 {
			t.Error("never seen:", e)
		}
	}
	if records < 100 {
		t.Error("too few records:", records)
	}
}

// plays makes any calls of a player, and holds them against reel's and view's.
func plays(t *testing.T, c *chance, m *medium.Medium, p *session.Player) {
	t.Helper()
	r, e := reel.Open(m)
	must(t, e, api.OK)
	at := 0
	for range 12 {
		src, wantError := r.Record(at)
		if at == r.Count() {
			wantError = api.ErrSessionSeek
		}
		var want, got []any
		switch c.below(4) {
		case 0:
			i := c.below(r.Count()+4) - 1
			wantError = api.ErrSessionSeek
			if i >= 0 && i <= r.Count() {
				at, wantError = i, api.OK
			}
			want, got = []any{wantError}, []any{p.Seek(i)}
		case 1:
			k := c.below(7) - 1
			var b []api.Block
			var report api.Report
			if wantError == api.OK {
				b, report, wantError = view.Slice(src, k, api.MaxSamples)
			}
			x, y, e := p.Slice(k)
			want, got = []any{b, report, wantError}, []any{x, y, e}
		case 2:
			area := rects()[c.below(len(rects()))]
			var f api.Frame
			var report api.Report
			if wantError == api.OK {
				f, report, wantError = view.Region(src, area, api.MaxSamples)
			}
			x, y, e := p.Region(area)
			want, got = []any{f, report, wantError}, []any{x, y, e}
		default:
			var f api.Frame
			var report api.Report
			if wantError == api.OK {
				f, report, wantError = view.Whole(src, api.MaxSamples)
			}
			x, y, e := p.Next()
			want, got = []any{f, report, wantError}, []any{x, y, e}
			if wantError == api.OK {
				at++
			}
		}
		if !reflect.DeepEqual(got, want) || p.At() != at {
			t.Fatal("a player tells otherwise", p.At(), at)
		}
	}
	to := medium.New()
	if n, e := p.Regenerate(to); n != r.Count() || e != api.OK {
		t.Fatal(n, e)
	}
	old, anew := m.Bytes(), to.Bytes()
	if !slices.Equal(old[:min(len(old), len(anew))], anew) {
		t.Fatal("made again, it is another reel")
	}
}
