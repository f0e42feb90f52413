package session_test

import (
	"testing"

	"dailies/api"
	"dailies/medium"
	"dailies/session"
)

// tight is a configuration whose cap no rung keeps to.
func tight() api.Config {
	c := by(1, api.Rung{}, api.Rung{63, 63, 63, 0})
	c.Cap = 40
	return c
}

// R4: frames of any shape, by any configuration that may be for them: the receipt, the step and the rung are Add's and Encode's, the bytes are theirs.
func TestR4Write(t *testing.T) {
	c := chance(4)
	for _, s := range shapes() {
		for parity := range 3 {
			config := by(parity, api.Rung{}, api.Rung{1, 2, 3, 0}, api.Rung{4, 5, 6, 0}, api.Rung{63, 63, 63, 0})
			var frames []api.Frame
			for range 3 {
				frames = append(frames, noisy(&c, s))
			}
			m, r := begun(t, config)
			writes(t, m, r, config, frames...)
			tells(t, m, api.Rung{}, frames...)
			must(t, r.Finish(), api.OK)
			tells(t, m, api.Rung{}, frames...)
		}
	}
}

// R4: by a cap it is the first rung that keeps to it.
func TestR4WriteByACap(t *testing.T) {
	f := row(small(), 1)[0]
	ladder := []api.Rung{{}, {2, 2, 2, 0}, {9, 9, 9, 0}, {60, 60, 60, 0}}
	for step, rung := range ladder {
		c := by(2, ladder...)
		c.Cap = len(coded(t, f, by(2, rung)).Bytes)
		m, r := begun(t, c)
		writes(t, m, r, c, f)
		if x, e := r.Write(f); e != api.OK || x.Step != step || x.Rung != rung || x.Receipt.Length != c.Cap || x.Receipt.Number != 1 {
			t.Fatal(step, x, e)
		}
		tells(t, m, rung, f, f)
	}
}

// R4: what is wrong is told in the chapter's order: the frame, its shape, the configuration or the cap, the medium; but for the last one nothing has changed.
func TestR4WriteRefused(t *testing.T) {
	f := flat(small(), 77)
	other := flat(shapes()[1], 77)
	for _, written := range []bool{false, true} {
		m, r := begun(t, plain())
		if written {
			writes(t, m, r, plain(), f)
		}
		for _, dead := range []bool{false, true} {
			if dead {
				kill(t, m)
			}
			was := m.Bytes()
			for _, c := range []api.Config{plain(), {}, by(1), tight(), by(1, api.Rung{0, 0, 0, 1}), by(-1, api.Rung{}), {SliceW: 17, SliceH: 16, Ladder: []api.Rung{{}}}} {
				must(t, r.Set(c), api.OK)
				for e, bad := range noFrames() {
					refused(t, r, bad, e)
				}
				refused(t, r, api.Frame{}, api.ErrPlaneShape)
				if written {
					refused(t, r, other, api.ErrSessionFrame)
				}
			}
			for _, c := range []api.Config{{}, by(1), by(1, api.Rung{0, 0, 0, 1}), by(17, api.Rung{}), by(1, make([]api.Rung, 17)...), {SliceW: 16, SliceH: 4097, Ladder: []api.Rung{{}}}, {SliceW: 16, SliceH: 16, Ladder: []api.Rung{{}}, Cap: -1}} {
				must(t, r.Set(c), api.OK)
				refused(t, r, f, api.ErrPictureConfig)
			}
			must(t, r.Set(tight()), api.OK)
			refused(t, r, f, api.ErrCap)
			as(t, m, was)
		}
		m.Revive()
		must(t, r.Set(plain()), api.OK)
		if !written {
			// None of the frames that were refused has left a shape.
			writes(t, m, r, plain(), flat(shapes()[3], 1), flat(shapes()[3], 2))
		} else {
			writes(t, m, r, plain(), f, f)
		}
		must(t, r.Finish(), api.OK)
	}
}

// R4: a configuration may be for one shape, and not for another one.
func TestR4TheConfigurationHangsOnTheShape(t *testing.T) {
	alpha := by(0, api.Rung{1, 1, 1, 1})
	m, r := begun(t, alpha)
	refused(t, r, flat(small(), 1), api.ErrPictureConfig)
	writes(t, m, r, alpha, flat(shapes()[2], 1))
	// Parity is for at most 200 slices.
	wide := api.Shape{Width: 16 * 201, Height: 1, Depth: 10}
	m, r = begun(t, plain())
	refused(t, r, flat(wide, 1), api.ErrPictureConfig)
	must(t, r.Set(by(0, api.Rung{})), api.OK)
	writes(t, m, r, by(0, api.Rung{}), flat(wide, 1))
	must(t, r.Set(plain()), api.OK)
	refused(t, r, flat(wide, 1), api.ErrPictureConfig)
	refused(t, r, flat(small(), 1), api.ErrSessionFrame)
	wide.Width -= 16
	m, r = begun(t, plain())
	writes(t, m, r, plain(), flat(wide, 1))
}

// R4: each field of a shape has a part in it.
func TestR4FramesOfAnotherShape(t *testing.T) {
	first := api.Shape{Width: 20, Height: 18, Depth: 10}
	m, r := begun(t, plain())
	writes(t, m, r, plain(), flat(first, 2))
	was := m.Bytes()
	for _, s := range []api.Shape{
		{Width: 19, Height: 18, Depth: 10}, {Width: 21, Height: 18, Depth: 10}, {Width: 20, Height: 17, Depth: 10}, {Width: 18, Height: 20, Depth: 10},
		{Width: 20, Height: 18, Depth: 12}, {Width: 20, Height: 18, Depth: 10, Alpha: true}, {Width: 1, Height: 1, Depth: 10},
	} {
		refused(t, r, flat(s, 2), api.ErrSessionFrame)
	}
	as(t, m, was)
	writes(t, m, r, plain(), flat(first, 3))
	tells(t, m, api.Rung{}, flat(first, 2), flat(first, 3))
}

// R4, P17.1: a medium that dies within Write keeps a beginning of link and record; the recorder is done, and stays so; what lay there is told, and may be gone on with.
func TestR4DeathWithinWrite(t *testing.T) {
	frames := row(small(), 4)
	before := recorded(t, plain(), false, frames[:2]...).Bytes()
	behind := recorded(t, plain(), false, frames[:3]...).Bytes()
	size := len(behind) - len(before)
	for _, keep := range []int{0, 1, 4, 15, 16, 17, 47, 48, 49, size / 2, size - 1, size, size + 1, 1 << 40} {
		m, r := begun(t, plain())
		writes(t, m, r, plain(), frames[:2]...)
		must(t, m.Arm(1, keep), api.OK)
		refused(t, r, frames[2], api.ErrMediumDead)
		as(t, m, behind[:len(before)+min(keep, size)])
		isDone(t, m, r)
		m.Revive()
		isDone(t, m, r)
		there := 2
		if keep >= size {
			there = 3
		}
		tells(t, m, api.Rung{}, frames[:there]...)

		again := recorder(t, m)
		must(t, again.Set(plain()), api.OK)
		must(t, again.Continue(), api.OK)
		writes(t, m, again, plain(), frames[there:]...)
		must(t, again.Finish(), api.OK)
		as(t, m, recorded(t, plain(), true, frames...).Bytes())
		isDone(t, m, r)
	}
}

// R4: a medium that is dead already is refused likewise, and so is the recorder's end.
func TestR4WriteOnADeadMedium(t *testing.T) {
	f := flat(small(), 3)
	m, r := begun(t, plain())
	was := m.Bytes()
	kill(t, m)
	refused(t, r, f, api.ErrMediumDead)
	m.Revive()
	isDone(t, m, r)
	as(t, m, was)

	// A death that comes in a later Append does not matter yet.
	m, r = begun(t, plain())
	must(t, m.Arm(3, 5), api.OK)
	writes(t, m, r, plain(), f, f)
	refused(t, r, f, api.ErrMediumDead)
	m.Revive()
	isDone(t, m, r)
	tells(t, m, api.Rung{}, f, f)
}

// R5: Finish ends the reel, with records and without, with a configuration and without; then the recorder is done.
func TestR5Finish(t *testing.T) {
	for many := range 4 {
		frames := row(small(), many)
		m, r := begun(t, plain())
		writes(t, m, r, plain(), frames...)
		must(t, r.Finish(), api.OK)
		var records [][]byte
		for _, f := range frames {
			records = append(records, coded(t, f, plain()).Bytes)
		}
		as(t, m, laid(t, label(), true, records...).Bytes())
		isDone(t, m, r)
		tells(t, m, api.Rung{}, frames...)
	}
	m := medium.New()
	r := recorder(t, m)
	must(t, r.Open(label()), api.OK)
	must(t, r.Finish(), api.OK)
	as(t, m, laid(t, label(), true).Bytes())
	isDone(t, m, r)
}

// R5: a medium that dies within Finish lets the recorder be done; all frames are there.
func TestR5DeathWithinFinish(t *testing.T) {
	frames := row(small(), 3)
	before := recorded(t, plain(), false, frames...).Bytes()
	behind := recorded(t, plain(), true, frames...).Bytes()
	size := len(behind) - len(before)
	for keep := range size + 2 {
		m, r := begun(t, plain())
		writes(t, m, r, plain(), frames...)
		must(t, m.Arm(1, keep), api.OK)
		must(t, r.Finish(), api.ErrMediumDead)
		as(t, m, behind[:len(before)+min(keep, size)])
		m.Revive()
		isDone(t, m, r)
		tells(t, m, api.Rung{}, frames...)
		again := recorder(t, m)
		if keep >= size {
			must(t, again.Continue(), api.ErrReelDone)
			continue
		}
		must(t, again.Continue(), api.OK)
		must(t, again.Finish(), api.OK)
		as(t, m, behind)
	}
	m, r := begun(t, plain())
	kill(t, m)
	must(t, r.Finish(), api.ErrMediumDead)
	m.Revive()
	isDone(t, m, r)
}

// P17.2: calls that are refused, strewn between those that go, change nothing of what the others answer.
func TestP17_2RefusedCallsChangeNothing(t *testing.T) {
	frames := row(small(), 4)
	want := recorded(t, plain(), true, frames...).Bytes()
	m := medium.New()
	r := recorder(t, m)
	strewn := func(stage int) {
		t.Helper()
		was := m.Bytes()
		for e, bad := range noFrames() {
			if stage < 2 {
				e = api.ErrSessionState
			}
			refused(t, r, bad, e)
		}
		if stage == 0 {
			must(t, r.Open(api.Label{}), api.ErrReelLabel)
			must(t, r.Continue(), api.ErrReelNone)
			must(t, r.Finish(), api.ErrSessionState)
		} else {
			must(t, r.Open(label()), api.ErrSessionState)
			must(t, r.Continue(), api.ErrSessionState)
		}
		if stage == 2 {
			must(t, r.Set(tight()), api.OK)
			refused(t, r, frames[0], api.ErrCap)
			must(t, r.Set(plain()), api.OK)
		}
		if stage == 3 {
			isDone(t, m, r)
		}
		as(t, m, was)
	}
	strewn(0)
	must(t, r.Open(label()), api.OK)
	strewn(1)
	must(t, r.Set(plain()), api.OK)
	strewn(2)
	for _, f := range frames {
		writes(t, m, r, plain(), f)
		refused(t, r, flat(shapes()[1], 1), api.ErrSessionFrame)
		strewn(2)
	}
	must(t, r.Finish(), api.OK)
	isDone(t, m, r)
	as(t, m, want)
}

// Recorders over one medium, one behind the other: each goes on where the last one ended.
func TestR2ContinueOverAndOver(t *testing.T) {
	frames := row(shapes()[5], 6)
	m := medium.New()
	var last *session.Recorder
	for i, f := range frames {
		r := recorder(t, m)
		if i == 0 {
			must(t, r.Open(label()), api.OK)
		} else {
			must(t, r.Continue(), api.OK)
		}
		must(t, r.Set(plain()), api.OK)
		refused(t, r, api.Frame{}, api.ErrPlaneShape)
		if i > 0 {
			refused(t, r, flat(small(), 1), api.ErrSessionFrame)
		}
		writes(t, m, r, plain(), f)
		tells(t, m, api.Rung{}, frames[:i+1]...)
		last = r
	}
	must(t, last.Finish(), api.OK)
	as(t, m, recorded(t, plain(), true, frames...).Bytes())
}
