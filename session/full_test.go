package session_test

import (
	"testing"

	"dailies/api"
	"dailies/reel"
)

// most is how many bytes a medium has at most, by chapter 15's number.
const most = 268435456

// R4, R5: where the medium has no room, its error is the answer, nothing is laid down, and the recorder is done; where there is just enough, all is well.
func TestR4NoRoom(t *testing.T) {
	f := flat(small(), 3)
	record := len(coded(t, f, plain()).Bytes)
	m := laid(t, label(), false)
	if _, e := m.Append(make([]byte, most-m.Size())); e != api.OK {
		t.Fatal(e)
	}
	for _, x := range []struct {
		room   int
		finish bool
		want   api.Errno
	}{
		{0, true, api.ErrMediumFull}, {0, false, api.ErrMediumFull},
		{27, true, api.ErrMediumFull}, {28, true, api.OK},
		{16, false, api.ErrMediumFull}, {record + 15, false, api.ErrMediumFull}, {record + 16, false, api.OK},
	} {
		// One long record, of any bytes, leaves just that room.
		size := most - x.room
		must(t, m.Truncate(size), api.OK)
		must(t, m.Overwrite(labelSize, linkOf(0, size-labelSize-16)), api.OK)
		r := recorder(t, m)
		must(t, r.Set(plain()), api.OK)
		must(t, r.Continue(), api.OK)
		// That there is no room is told behind all else.
		must(t, r.Set(tight()), api.OK)
		refused(t, r, f, api.ErrCap)
		must(t, r.Set(plain()), api.OK)
		var e api.Errno
		if x.finish {
			e = r.Finish()
		} else {
			_, e = r.Write(f)
		}
		must(t, e, x.want)
		if e == api.OK {
			if m.Size() != most {
				t.Fatal(m.Size())
			}
			continue
		}
		if m.Size() != size {
			t.Fatal(m.Size())
		}
		must(t, r.Open(label()), api.ErrSessionState)
		must(t, r.Continue(), api.ErrSessionState)
		must(t, r.Set(plain()), api.ErrSessionState)
		refused(t, r, f, api.ErrSessionState)
		must(t, r.Finish(), api.ErrSessionState)
		if m.Size() != size || player(t, m).Count() != 1 {
			t.Fatal(m.Size())
		}
	}
}

// R4: MaxFrames frames may be, and not one more; that is told behind all that is wrong with the frame, and the recorder stays open.
func TestR4MaxFrames(t *testing.T) {
	s := api.Shape{Width: 1, Height: 1, Depth: 10}
	f := flat(s, 512)
	c := by(0, api.Rung{})
	b := coded(t, f, c).Bytes
	m := laid(t, label(), false)
	w, e := reel.Continue(m)
	must(t, e, api.OK)
	for range api.MaxFrames - 1 {
		if _, e := w.Add(b); e != api.OK {
			t.Fatal(e)
		}
	}
	r := recorder(t, m)
	must(t, r.Continue(), api.OK)
	must(t, r.Set(c), api.OK)
	if x, e := r.Write(f); e != api.OK || x.Receipt != (api.Receipt{Number: 99999, At: labelSize + 99999*(16+len(b)) + 16, Length: len(b)}) {
		t.Fatal(x, e)
	}
	size := m.Size()
	for range 2 {
		refused(t, r, f, api.ErrReelMany)
		refused(t, r, api.Frame{}, api.ErrPlaneShape)
		refused(t, r, flat(small(), 512), api.ErrSessionFrame)
		must(t, r.Set(tight()), api.OK)
		refused(t, r, f, api.ErrCap)
		must(t, r.Set(api.Config{}), api.OK)
		refused(t, r, f, api.ErrPictureConfig)
		must(t, r.Set(c), api.OK)
		must(t, r.Open(label()), api.ErrSessionState)
	}
	// The medium is not asked for the sake of a record that may not be.
	kill(t, m)
	refused(t, r, f, api.ErrReelMany)
	m.Revive()
	if m.Size() != size {
		t.Fatal(m.Size())
	}
	must(t, r.Finish(), api.OK)
	must(t, r.Finish(), api.ErrSessionState)
	p := player(t, m)
	if p.Count() != 100000 {
		t.Fatal(p.Count())
	}
	must(t, p.Seek(100001), api.ErrSessionSeek)
	must(t, p.Seek(100000), api.OK)
	_, _, e = p.Next()
	must(t, e, api.ErrSessionSeek)
	must(t, p.Seek(99999), api.OK)
	g, _, e := p.Next()
	must(t, e, api.OK)
	near(t, f, g, api.Rung{})
}
