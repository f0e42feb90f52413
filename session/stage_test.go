package session_test

import (
	"strings"
	"testing"

	"dailies/api"
	"dailies/medium"
	"dailies/reel"
	"dailies/session"
)

// R1: a medium that is nil is refused; any other one is taken, and neither looked at nor changed.
func TestR1Record(t *testing.T) {
	if r, e := session.Record(nil); r != nil || e != api.ErrArg {
		t.Fatal(r, e)
	}
	for _, m := range []*medium.Medium{
		medium.New(), load(t, []byte("no reel")), laid(t, label(), false), laid(t, label(), true),
		kill(t, medium.New()), kill(t, laid(t, label(), false)),
	} {
		was, dead := m.Bytes(), m.Dead()
		m.Forget()
		recorder(t, m)
		recorder(t, m)
		as(t, m, was)
		if len(m.Log()) != 0 || m.Dead() != dead {
			t.Fatal(m.Log(), m.Dead())
		}
	}
}

// R1 to R5: every call of a recorder that is new, open and done, with a configuration and without: what goes, and what is refused and changes nothing.
func TestEveryCallInEveryStage(t *testing.T) {
	const none, set = false, true
	state := api.ErrSessionState
	for _, x := range []struct {
		name    string
		config  bool
		prepare func(m *medium.Medium, r *session.Recorder)
		// What Open, Continue, Set, Write and Finish answer, each as the first call from here on.
		want [5]api.Errno
	}{
		{"new", none, func(*medium.Medium, *session.Recorder) {}, [5]api.Errno{api.OK, api.ErrReelNone, api.OK, state, state}},
		{"new", set, func(*medium.Medium, *session.Recorder) {}, [5]api.Errno{api.OK, api.ErrReelNone, api.OK, state, state}},
		{"open", none, func(_ *medium.Medium, r *session.Recorder) { r.Open(label()) }, [5]api.Errno{state, state, api.OK, state, api.OK}},
		{"open", set, func(_ *medium.Medium, r *session.Recorder) { r.Open(label()) }, [5]api.Errno{state, state, api.OK, api.OK, api.OK}},
		{"gone on with", none, func(m *medium.Medium, r *session.Recorder) { reel.Create(m, label()); r.Continue() }, [5]api.Errno{state, state, api.OK, state, api.OK}},
		{"gone on with", set, func(m *medium.Medium, r *session.Recorder) { reel.Create(m, label()); r.Continue() }, [5]api.Errno{state, state, api.OK, api.OK, api.OK}},
		{"finished", none, func(_ *medium.Medium, r *session.Recorder) { r.Open(label()); r.Finish() }, [5]api.Errno{state, state, state, state, state}},
		{"finished", set, func(_ *medium.Medium, r *session.Recorder) { r.Open(label()); r.Finish() }, [5]api.Errno{state, state, state, state, state}},
		{"died in Finish", none, func(m *medium.Medium, r *session.Recorder) { r.Open(label()); m.Arm(1, 3); r.Finish(); m.Revive() }, [5]api.Errno{state, state, state, state, state}},
		{"died in Write", set, func(m *medium.Medium, r *session.Recorder) {
			r.Open(label())
			m.Arm(1, 3)
			r.Write(flat(small(), 3))
			m.Revive()
		}, [5]api.Errno{state, state, state, state, state}},
	} {
		for call, want := range x.want {
			m := medium.New()
			r := recorder(t, m)
			if x.config {
				must(t, r.Set(plain()), api.OK)
			}
			x.prepare(m, r)
			was := m.Bytes()
			got := [5]func() api.Errno{
				func() api.Errno { return r.Open(label()) },
				r.Continue,
				func() api.Errno { return r.Set(plain()) },
				func() api.Errno { _, e := r.Write(flat(small(), 3)); return e },
				r.Finish,
			}[call]()
			if got != want {
				t.Fatalf("%s, configured %v, call %d: %v, not %v", x.name, x.config, call, got, want)
			}
			if want != api.OK {
				as(t, m, was)
			}
		}
	}
}

// R2, R3, R4, R5: that the stage is wrong is told ahead of all else, whatever is handed in, and on whatever medium.
func TestTheStageIsAskedFirst(t *testing.T) {
	m := medium.New()
	fresh := recorder(t, kill(t, m))
	for _, f := range noFrames() {
		refused(t, fresh, f, api.ErrSessionState)
	}
	refused(t, fresh, flat(small(), 1), api.ErrSessionState)
	must(t, fresh.Finish(), api.ErrSessionState)

	m, r := begun(t, plain())
	writes(t, m, r, plain(), flat(small(), 9))
	kill(t, m)
	must(t, r.Open(api.Label{Rate: 99}), api.ErrSessionState)
	must(t, r.Open(label()), api.ErrSessionState)
	must(t, r.Continue(), api.ErrSessionState)

	// Without a configuration no frame is looked at.
	m = medium.New()
	r = recorder(t, m)
	must(t, r.Open(label()), api.OK)
	for _, f := range noFrames() {
		refused(t, r, f, api.ErrSessionState)
	}
	kill(t, m)
	refused(t, r, flat(small(), 1), api.ErrSessionState)
	m.Revive()
	must(t, r.Set(plain()), api.OK)
	writes(t, m, r, plain(), flat(small(), 1))
}

// R2: Open is what reel.Create is; refused, the recorder stays new, and may be asked again.
func TestR2OpenRefusedAndAgain(t *testing.T) {
	m := medium.New()
	r := recorder(t, m)
	for _, l := range []api.Label{{}, {Rate: 8}, {Rate: -1}, {Rate: 1, Start: -1}, {Rate: 1, Start: 5184000}, {Rate: 1, Title: "\xff"}, {Rate: 1, Title: strings.Repeat("x", 101)}} {
		must(t, r.Open(l), api.ErrReelLabel)
		must(t, r.Continue(), api.ErrReelNone)
		refused(t, r, flat(small(), 1), api.ErrSessionState)
		must(t, r.Finish(), api.ErrSessionState)
		as(t, m, nil)
	}
	must(t, r.Set(plain()), api.OK)
	kill(t, m)
	must(t, r.Open(label()), api.ErrMediumDead)
	must(t, r.Open(api.Label{}), api.ErrReelLabel)
	must(t, r.Continue(), api.ErrMediumDead)
	m.Append([]byte("x"))
	m.Revive()
	m.Append([]byte("x"))
	must(t, r.Open(label()), api.ErrReelThere)
	must(t, r.Open(api.Label{}), api.ErrReelLabel)
	must(t, r.Continue(), api.ErrReelNone)
	kill(t, m)
	must(t, r.Open(label()), api.ErrReelThere)
	must(t, r.Continue(), api.ErrMediumDead)
	m.Revive()
	must(t, m.Truncate(0), api.OK)
	long := api.Label{Title: strings.Repeat("x", 100), Rate: 7, Start: 5183999}
	must(t, r.Open(long), api.OK)
	as(t, m, laid(t, long, false).Bytes())
	writes(t, m, r, plain(), flat(small(), 1))
	must(t, r.Open(label()), api.ErrSessionState)
}

// R2: where the medium dies within the label, the recorder stays new; what stayed there is what the next calls find.
func TestR2OpenOnADyingMedium(t *testing.T) {
	text := laid(t, label(), false).Bytes()
	if len(text) != labelSize {
		t.Fatal(len(text))
	}
	for keep := range labelSize + 2 {
		m := medium.New()
		r := recorder(t, m)
		must(t, r.Set(plain()), api.OK)
		must(t, m.Arm(1, keep), api.OK)
		must(t, r.Open(label()), api.ErrMediumDead)
		as(t, m, text[:min(keep, labelSize)])
		must(t, r.Open(label()), map[bool]api.Errno{true: api.ErrReelThere, false: api.ErrMediumDead}[keep > 0])
		must(t, r.Finish(), api.ErrSessionState)
		refused(t, r, flat(small(), 1), api.ErrSessionState)
		must(t, r.Continue(), api.ErrMediumDead)
		m.Revive()
		if keep >= labelSize {
			must(t, r.Open(label()), api.ErrReelThere)
			must(t, r.Continue(), api.OK)
		} else {
			must(t, r.Continue(), api.ErrReelNone)
			must(t, m.Truncate(0), api.OK)
			must(t, r.Open(label()), api.OK)
		}
		as(t, m, text)
		writes(t, m, r, plain(), flat(small(), 1))
	}
}

// R2: Continue of what is no reel, or one that is finished, is refused; the recorder stays new, and goes on as soon as it can.
func TestR2ContinueRefusedAndAgain(t *testing.T) {
	frames := row(small(), 3)
	m := recorded(t, plain(), true, frames[0])
	was := m.Bytes()
	r := recorder(t, m)
	must(t, r.Set(plain()), api.OK)
	must(t, r.Continue(), api.ErrReelDone)
	must(t, r.Continue(), api.ErrReelDone)
	must(t, r.Open(label()), api.ErrReelThere)
	kill(t, m)
	must(t, r.Continue(), api.ErrMediumDead)
	as(t, m, was)
	m.Revive()
	must(t, m.Overwrite(0, []byte("X")), api.OK)
	must(t, r.Continue(), api.ErrReelNone)
	must(t, m.Overwrite(0, []byte("R")), api.OK)
	must(t, r.Continue(), api.ErrReelDone)
	as(t, m, was)
	refused(t, r, frames[1], api.ErrSessionState)
	must(t, r.Finish(), api.ErrSessionState)
	must(t, m.Truncate(len(was)-1), api.OK)
	must(t, r.Continue(), api.OK)
	writes(t, m, r, plain(), frames[1:]...)
	must(t, r.Continue(), api.ErrSessionState)
	must(t, r.Open(label()), api.ErrSessionState)
	must(t, r.Finish(), api.OK)
	as(t, m, recorded(t, plain(), true, frames...).Bytes())
}

// R2: behind Continue of a reel without records there is no shape: the first frame may have any, and has the others keep to it.
func TestR2ContinueWithoutRecords(t *testing.T) {
	for _, s := range shapes() {
		m := laid(t, label(), false)
		r := recorder(t, m)
		must(t, r.Continue(), api.OK)
		must(t, r.Set(plain()), api.OK)
		writes(t, m, r, plain(), flat(s, 500))
		for _, other := range shapes() {
			if other != s {
				refused(t, r, flat(other, 500), api.ErrSessionFrame)
			}
		}
		writes(t, m, r, plain(), flat(s, 501))
	}
}

// R2: behind Continue of a reel with records there is a shape, that of the first one, whatever the others have.
func TestR2ContinueHasTheShapeOfTheFirstRecord(t *testing.T) {
	for _, s := range shapes() {
		first := coded(t, flat(s, 500), plain())
		for _, last := range shapes() {
			second := coded(t, flat(last, 500), plain())
			m := laid(t, label(), false, first.Bytes, second.Bytes)
			was := m.Bytes()
			r := recorder(t, m)
			must(t, r.Set(plain()), api.OK)
			must(t, r.Continue(), api.OK)
			for _, other := range shapes() {
				if other != s {
					refused(t, r, flat(other, 500), api.ErrSessionFrame)
				}
			}
			as(t, m, was)
			writes(t, m, r, plain(), flat(s, 3))
		}
	}
}

// R2, R4: where view refuses the head of record 0, there is no shape, though others have one; the first frame that is written has it.
func TestR2ContinueWhereTheFirstHeadIsNone(t *testing.T) {
	good := coded(t, flat(small(), 500), plain()).Bytes
	bad := append([]byte(nil), good...)
	bad[5] ^= 1
	for _, first := range [][]byte{bad, nil, good[:31], make([]byte, 40)} {
		for _, s := range shapes() {
			m := linked(t, first, good)
			r := recorder(t, m)
			must(t, r.Continue(), api.OK)
			must(t, r.Set(plain()), api.OK)
			writes(t, m, r, plain(), flat(s, 5))
			for _, other := range shapes() {
				if other != s {
					refused(t, r, flat(other, 500), api.ErrSessionFrame)
				}
			}
			writes(t, m, r, plain(), flat(s, 6))
			if n := player(t, m).Count(); n != 4 {
				t.Fatal(n)
			}
		}
	}
	// A head alone is enough: neither its length nor what stands behind is asked.
	for _, first := range [][]byte{good[:32], append(append([]byte(nil), good[:32]...), "no table"...)} {
		m := linked(t, first)
		r := recorder(t, m)
		must(t, r.Continue(), api.OK)
		must(t, r.Set(plain()), api.OK)
		refused(t, r, flat(shapes()[1], 5), api.ErrSessionFrame)
		writes(t, m, r, plain(), flat(small(), 5))
	}
}

// R3: a configuration may be set while new and while open, any one, any number of times; the last one holds from then on.
func TestR3Set(t *testing.T) {
	m := medium.New()
	r := recorder(t, m)
	must(t, r.Set(api.Config{}), api.OK)
	must(t, r.Set(plain()), api.OK)
	must(t, r.Open(label()), api.OK)
	writes(t, m, r, plain(), flat(small(), 1))
	f := row(small(), 1)[0]
	for _, c := range []api.Config{by(0, api.Rung{}), by(3, api.Rung{2, 3, 4, 0}), {SliceW: 32, SliceH: 16, Ladder: []api.Rung{{1, 1, 1, 0}}}, by(16, api.Rung{63, 63, 63, 0}, api.Rung{})} {
		must(t, r.Set(api.Config{SliceW: -1}), api.OK)
		refused(t, r, f, api.ErrPictureConfig)
		must(t, r.Set(c), api.OK)
		writes(t, m, r, c, f, f)
	}
	must(t, r.Finish(), api.OK)
	isDone(t, m, r)
}

// R3, P3: what is done to the ladder, or to its spare room, behind Set has no part in what is coded.
func TestR3TheLadderIsCopied(t *testing.T) {
	f := row(small(), 1)[0]
	list := []api.Rung{{5, 5, 5, 0}, {7, 7, 7, 0}, {9, 9, 9, 0}, {9, 9, 9, 0}}
	c := by(1, list[:2]...)
	c.Ladder = list[:2]
	exact := by(1, api.Rung{5, 5, 5, 0}, api.Rung{7, 7, 7, 0})
	first := len(coded(t, f, by(1, exact.Ladder[0])).Bytes)
	c.Cap, exact.Cap = first-1, first-1
	m, r := begun(t, c)
	list[0], list[1] = api.Rung{-1, 0, 0, 0}, api.Rung{1, 1, 1, 1}
	c.Ladder = append(c.Ladder, api.Rung{-1, -1, -1, -1})
	writes(t, m, r, exact, f)
	if x := coded(t, f, exact); x.Step != 1 {
		t.Fatal("the test is none:", x.Step)
	}
	clear(list)
	writes(t, m, r, exact, f)
}

// The chapter's table of examples, one behind the other.
func TestExamples(t *testing.T) {
	if r, e := session.Record(nil); r != nil || e != api.ErrArg {
		t.Fatal(r, e)
	}
	m := medium.New()
	r := recorder(t, m)
	f := flat(small(), 300)
	refused(t, r, f, api.ErrSessionState)
	must(t, r.Finish(), api.ErrSessionState)
	must(t, r.Set(plain()), api.OK)
	must(t, r.Open(label()), api.OK)
	if x, e := r.Write(f); e != api.OK || x.Receipt.Number != 0 {
		t.Fatal(x, e)
	}
	refused(t, r, flat(shapes()[1], 300), api.ErrSessionFrame)
	must(t, r.Open(label()), api.ErrSessionState)
	must(t, r.Continue(), api.ErrSessionState)
	must(t, r.Set(by(1)), api.OK)
	refused(t, r, f, api.ErrPictureConfig)
	must(t, r.Finish(), api.OK)
	refused(t, r, f, api.ErrSessionState)
	must(t, r.Set(plain()), api.ErrSessionState)
	must(t, r.Finish(), api.ErrSessionState)

	p := player(t, m)
	if p.Count() != 1 {
		t.Fatal(p.Count())
	}
	must(t, p.Seek(1), api.OK)
	_, _, e := p.Next()
	must(t, e, api.ErrSessionSeek)
	must(t, p.Seek(2), api.ErrSessionSeek)
	must(t, p.Seek(0), api.OK)
	g, _, e := p.Next()
	must(t, e, api.OK)
	near(t, f, g, api.Rung{})
	if p.At() != 1 {
		t.Fatal(p.At())
	}
	_, _, e = p.Slice(0)
	must(t, e, api.ErrSessionSeek)
	to := medium.New()
	if n, e := p.Regenerate(to); n != 1 || e != api.OK {
		t.Fatal(n, e)
	}
	as(t, to, m.Bytes())
	if n, e := p.Regenerate(m); n != 0 || e != api.ErrReelThere {
		t.Fatal(n, e)
	}
	as(t, m, to.Bytes())
}
