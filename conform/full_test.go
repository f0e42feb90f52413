package conform_test

import (
	"testing"

	"dailies/api"
	"dailies/conform"
	"dailies/medium"
	"dailies/reel"
)

// most is how many bytes a medium has at most, by chapter 15's number.
const most = 268435456

// hugeRecord is a right head, by chapter 12's words, and so many bytes in all: a writer asks for no more.
func hugeRecord(t *testing.T, length int) []byte {
	t.Helper()
	head := coded(t, flat(small(), 5), plain())[:28]
	copy(head[24:], []byte{byte(length >> 24), byte(length >> 16), byte(length >> 8), byte(length)})
	b := make([]byte, length)
	copy(b, summed(head))
	return b
}

// K3: where out has no room, for a record or for the end, that is told, of the step's event or of none; what there is room for stays.
func TestK3NoRoom(t *testing.T) {
	// A label of 15 bytes, two links, two records: less than five bytes are left for the end.
	length := (most - 15 - 2*16) / 2
	m := laid(t, api.Label{Rate: api.Rate25}, false, hugeRecord(t, length))
	reels := map[string]*reel.Reel{"x": open(t, m)}
	for _, x := range []struct {
		events, event int
	}{{2, -1}, {3, 2}} {
		l := api.CutList{Rate: api.Rate25}
		for range x.events {
			l.Events = append(l.Events, cut("x", 0, 1))
		}
		out := medium.New()
		built, err := conform.Build(l, reels, api.Config{}, 0, out)
		says(t, err, x.event, api.ErrMediumFull)
		if built != (api.Built{}) || out.Size() != 15+2*(16+length) || out.Size() <= most-5 {
			t.Fatal(built, out.Size())
		}
		if r := open(t, out); r.Count() != 2 || r.Finished() {
			t.Fatal(r.Count())
		}
	}
}

// K3: a reel has 100000 records at most: just as many may be made, and one more is told of its event, all others staying.
func TestK3MaxFrames(t *testing.T) {
	s := api.Shape{Width: 1, Height: 1, Depth: 10}
	c := by(0, api.Rung{})
	record := coded(t, flat(s, 512), c)
	m := laid(t, api.Label{Rate: api.Rate25}, false)
	w, e := reel.Continue(m)
	must(t, e, api.OK)
	for range 50000 {
		if _, e := w.Add(record); e != api.OK {
			t.Fatal(e)
		}
	}
	reels := map[string]*reel.Reel{"x": open(t, m)}
	for _, x := range []struct {
		events []api.Event
		event  int
		fault  api.Errno
	}{
		{[]api.Event{cut("x", 0, 50000), cut("x", 0, 50000)}, 0, api.OK},
		{[]api.Event{cut("x", 0, 50000), fade(100, "x", 0, 50000), cut("x", 0, 100)}, 0, api.OK},
		{[]api.Event{cut("x", 0, 50000), cut("x", 0, 50000), cut("x", 7, 8)}, 2, api.ErrReelMany},
		{[]api.Event{cut("x", 0, 50000), cut("x", 0, 49999), cut("x", 0, 50000), cut("x", 0, 50000)}, 2, api.ErrReelMany},
	} {
		out := medium.New()
		built, err := conform.Build(listOf(x.events...), reels, c, api.MaxSamples, out)
		says(t, err, x.event, x.fault)
		want := api.Built{Frames: 100000, Copied: 100000}
		if x.fault != api.OK {
			want = api.Built{}
		} else if len(x.events) == 3 {
			want = api.Built{Frames: 100000, Copied: 99900, Mixed: 100}
		}
		if r := open(t, out); built != want || r.Count() != 100000 || r.Finished() != (x.fault == api.OK) {
			t.Fatal(built, r.Count())
		}
	}
}
