package reel_test

import (
	"strings"
	"testing"

	"dailies/api"
	"dailies/medium"
	"dailies/reel"
)

// most is how many bytes a medium has at most, by the chapter's number.
const most = 268435456

// R3, R4, R5: MaxFrames records may be, and not one more; what is no record is told ahead of that, and the reel may still be finished.
func TestR3MaxFrames(t *testing.T) {
	m, w := created(t, api.Label{Title: "many", Rate: 6})
	small := []byte(record(""))
	for i := range 100000 {
		want := api.Receipt{Number: i, At: 19 + 60*i + 16, Length: 44}
		if x, e := w.Add(small); x != want || e != api.OK {
			t.Fatal(x, e)
		}
	}
	full := func() {
		t.Helper()
		size := m.Size()
		if x, e := w.Add(small); x != (api.Receipt{}) || e != api.ErrReelMany {
			t.Fatal(x, e)
		}
		if _, e := w.Add(small[:43]); e != api.ErrReelRecord {
			t.Fatal(e)
		}
		if w.Count() != 100000 || m.Size() != size {
			t.Fatal(w.Count(), m.Size())
		}
	}
	full()
	isFull(t, m, false)
	w, e := reel.Continue(m)
	must(t, e, api.OK)
	full()
	// A link that goes on as if there could be more is none; Continue cuts it off.
	size := m.Size()
	m.Append([]byte(saidLink(100000, 44) + string(small)))
	isFull(t, m, false)
	w, e = reel.Continue(m)
	if e != api.OK || m.Size() != size {
		t.Fatal(e, m.Size())
	}
	full()
	if x, e := w.Finish(); e != api.OK || x != (api.Receipt{Number: 100000, At: 19 + 60*100000, Length: 24 + 400000}) {
		t.Fatal(x, e)
	}
	isFull(t, m, true)
	if _, e := w.Add(small); e != api.ErrReelDone {
		t.Fatal(e)
	}
	end := m.Bytes()[size:]
	var places strings.Builder
	for i := range 100000 {
		places.WriteString(four(19 + 60*i))
	}
	if string(end) != withSum("INDX"+four(100000)+places.String())+saidFoot(size) {
		t.Fatal("another end")
	}
}

// isFull looks whether a reel has MaxFrames records.
func isFull(t *testing.T, m *medium.Medium, finished bool) {
	t.Helper()
	r, e := reel.Open(m)
	must(t, e, api.OK)
	if r.Count() != 100000 || r.Finished() != finished {
		t.Fatal(r.Count(), r.Finished())
	}
	if x, e := r.Receipt(99999); e != api.OK || x != (api.Receipt{Number: 99999, At: 19 + 60*99999 + 16, Length: 44}) {
		t.Fatal(x, e)
	}
	refusesRecord(t, r, 100000)
	n := 0
	for x := range r.All() {
		if x.Number != n {
			t.Fatal(x)
		}
		n++
	}
	if n != 100000 {
		t.Fatal(n)
	}
}

// R3, R4: where there is no room, the medium's error is the answer, nothing is laid down, and the writer is given up; where there is just enough, all is well.
func TestR3NoRoom(t *testing.T) {
	label := saidLabel(api.Label{Title: "full", Rate: 1})
	m := load(t, label)
	if _, e := m.Append(make([]byte, most-m.Size())); e != api.OK {
		t.Fatal(e)
	}
	for _, x := range []struct {
		room   int
		finish bool
		want   api.Errno
	}{
		{0, true, api.ErrMediumFull}, {0, false, api.ErrMediumFull},
		{16, true, api.ErrMediumFull}, {16, false, api.ErrMediumFull},
		{27, true, api.ErrMediumFull}, {28, true, api.OK},
		{59, false, api.ErrMediumFull}, {60, false, api.OK},
	} {
		// One long record, of any bytes, leaves just that room.
		size := most - x.room
		must(t, m.Truncate(size), api.OK)
		must(t, m.Overwrite(len(label), []byte(saidLink(0, size-len(label)-16))), api.OK)
		w, e := reel.Continue(m)
		must(t, e, api.OK)
		call := func() (api.Receipt, api.Errno) { return w.Add([]byte(record(""))) }
		want := api.Receipt{Number: 1, At: size + 16, Length: 44}
		if x.finish {
			call, want = w.Finish, api.Receipt{Number: 1, At: size, Length: 28}
		}
		got, e := call()
		if e == api.OK {
			size = most
		} else {
			want = api.Receipt{}
		}
		if e != x.want || got != want || m.Size() != size {
			t.Fatalf("%+v: %+v, %v, %d", x, got, e, m.Size())
		}
		if e == api.OK {
			continue
		}
		if _, e := w.Add([]byte(record(""))); e != api.ErrReelDone || m.Size() != size || w.Count() != 1 {
			t.Fatal(e, m.Size())
		}
		if _, e := w.Finish(); e != api.ErrReelDone || m.Size() != size {
			t.Fatal(e, m.Size())
		}
		if r, e := reel.Open(m); e != api.OK || r.Count() != 1 || r.Finished() {
			t.Fatal(e)
		}
	}
}
