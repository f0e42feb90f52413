package session_test

import (
	"math"
	"reflect"
	"slices"
	"testing"

	"dailies/api"
	"dailies/medium"
	"dailies/picture"
	"dailies/plane"
	"dailies/reel"
	"dailies/session"
	"dailies/view"
)

// beside is a reel of the same bytes on a medium of its own, to be looked at by the layers below.
func beside(t *testing.T, m *medium.Medium) (*medium.Medium, *reel.Reel) {
	t.Helper()
	copied := load(t, m.Bytes())
	r, e := reel.Open(copied)
	must(t, e, api.OK)
	if m.Dead() {
		kill(t, copied)
	}
	return copied, r
}

// rects are rectangles of the small shape: whole, and not.
func rects() []api.Rect {
	return []api.Rect{
		{W: 20, H: 18}, {X: 2, Y: 3, W: 4, H: 1}, {X: 14, Y: 15, W: 6, H: 2}, {X: 18, Y: 17, W: 2, H: 1}, {X: 14, Y: 0, W: 2, H: 18},
		{}, {X: 1, W: 4, H: 4}, {W: 3, H: 4}, {X: 18, W: 4, H: 1}, {Y: 18, W: 2, H: 1}, {X: -2, W: 4, H: 4}, {W: math.MaxInt, H: 1}, {X: math.MaxInt - 1, W: 2, H: math.MinInt},
	}
}

// looks makes every call of a player where it stands and holds it against view's, in what is answered, and in what is read.
func looks(t *testing.T, m *medium.Medium, p *session.Player, limit int) {
	t.Helper()
	at := p.At()
	copied, r := beside(t, m)
	src, e := r.Record(at)
	must(t, e, api.OK)
	logs := func(what string, k any) {
		t.Helper()
		if l := m.Log(); !slices.Equal(l, copied.Log()) {
			t.Fatalf("%s %v at %d read %v, and view %v", what, k, at, l, copied.Log())
		}
	}
	forget := func() {
		m.Forget()
		copied.Forget()
	}
	for _, k := range append(odd(), 0, 1, 2, 3, 4, 5) {
		forget()
		want, wantReport, wantError := view.Slice(src, k, limit)
		got, report, e := p.Slice(k)
		if !reflect.DeepEqual(got, want) || !reflect.DeepEqual(report, wantReport) || e != wantError || p.At() != at {
			t.Fatalf("Slice(%d) at %d: %v, not %v", k, at, e, wantError)
		}
		logs("Slice", k)
	}
	for _, x := range rects() {
		forget()
		want, wantReport, wantError := view.Region(src, x, limit)
		got, report, e := p.Region(x)
		if !reflect.DeepEqual(got, want) || !reflect.DeepEqual(report, wantReport) || e != wantError || p.At() != at {
			t.Fatalf("Region(%v) at %d: %v, not %v", x, at, e, wantError)
		}
		logs("Region", x)
	}
	forget()
	want, wantReport, wantError := view.Whole(src, limit)
	got, report, e := p.Next()
	if !reflect.DeepEqual(got, want) || !reflect.DeepEqual(report, wantReport) || e != wantError {
		t.Fatalf("Next at %d: %v, not %v", at, e, wantError)
	}
	logs("Next", at)
	went := at
	if e == api.OK {
		went++
	}
	if p.At() != went {
		t.Fatal("Next went from", at, "to", p.At(), e)
	}
}

// nothing looks whether every call that looks is refused by one error, with nothing told, nothing read, and no step.
func nothing(t *testing.T, m *medium.Medium, p *session.Player, want api.Errno) {
	t.Helper()
	at := p.At()
	m.Forget()
	for _, k := range []int{0, -1, 99} {
		if b, report, e := p.Slice(k); len(b) != 0 || !reflect.DeepEqual(report, api.Report{}) || e != want {
			t.Fatal("Slice:", b, report, e)
		}
	}
	for _, x := range rects() {
		if f, report, e := p.Region(x); !reflect.DeepEqual(f, api.Frame{}) || !reflect.DeepEqual(report, api.Report{}) || e != want {
			t.Fatal("Region:", f, report, e)
		}
	}
	for range 2 {
		if f, report, e := p.Next(); !reflect.DeepEqual(f, api.Frame{}) || !reflect.DeepEqual(report, api.Report{}) || e != want {
			t.Fatal("Next:", f, report, e)
		}
	}
	if p.At() != at || len(m.Log()) != 0 {
		t.Fatal(p.At(), m.Log())
	}
}

// R6: what is no medium, no limit or no reel is refused, in this order.
func TestR6PlayRefused(t *testing.T) {
	good := recorded(t, plain(), true, flat(small(), 1))
	cut := load(t, good.Bytes()[:labelSize-1])
	for _, x := range []struct {
		m     *medium.Medium
		limit int
		want  api.Errno
	}{
		{nil, 0, api.ErrArg}, {nil, 1000, api.ErrArg}, {nil, -1, api.ErrArg},
		{good, -1, api.ErrArg}, {good, -2, api.ErrArg}, {good, math.MinInt, api.ErrArg},
		{medium.New(), -1, api.ErrArg}, {kill(t, medium.New()), -1, api.ErrArg},
		{medium.New(), 0, api.ErrReelNone}, {load(t, []byte("REEL")), 9, api.ErrReelNone}, {cut, api.MaxSamples, api.ErrReelNone},
		{kill(t, medium.New()), 0, api.ErrMediumDead}, {kill(t, laid(t, label(), true)), 0, api.ErrMediumDead},
	} {
		if p, e := session.Play(x.m, x.limit); p != nil || e != x.want {
			t.Fatalf("%d: %v, %v; not %v", x.limit, p, e, x.want)
		}
	}
}

// R6: label and count are the reel's, the place is 0; nothing of that asks the medium, and whatever becomes of it, they stay.
func TestR6PlayTellsTheReelAsItWasOpened(t *testing.T) {
	frames := row(small(), 3)
	for many := range 4 {
		m := recorded(t, plain(), many%2 == 0, frames[:many]...)
		was := m.Bytes()
		p := player(t, m)
		as(t, m, was)
		m.Forget()
		for _, befalls := range []func(){
			func() {},
			func() { m.Append([]byte("behind it")) },
			func() { m.Overwrite(0, []byte("no reel")) },
			func() { m.Truncate(labelSize) },
			func() { m.Truncate(0) },
			func() { kill(t, m) },
			func() { m.Revive() },
			func() {
				r := recorder(t, m)
				must(t, r.Open(api.Label{Title: "another one", Rate: 7}), api.OK)
			},
		} {
			befalls()
			if p.Label() != label() || p.Count() != many || p.At() != 0 {
				t.Fatal(p.Label(), p.Count(), p.At())
			}
		}
		if len(m.Log()) != 0 {
			t.Fatal(m.Log())
		}
	}
}

// R6: what is written behind Play is another player's.
func TestR6FramesWrittenBehindPlay(t *testing.T) {
	frames := row(small(), 3)
	m, r := begun(t, plain())
	writes(t, m, r, plain(), frames[:2]...)
	p := player(t, m)
	writes(t, m, r, plain(), frames[2])
	if p.Count() != 2 {
		t.Fatal(p.Count())
	}
	must(t, p.Seek(2), api.OK)
	nothing(t, m, p, api.ErrSessionSeek)
	must(t, p.Seek(3), api.ErrSessionSeek)
	tells(t, m, api.Rung{}, frames...)
}

// R7: every place from 0 to Count can be had; no other one, and then it stays where it was.
func TestR7Seek(t *testing.T) {
	for many := range 4 {
		m := recorded(t, plain(), true, row(small(), many)...)
		p := player(t, m)
		m.Forget()
		for from := range many + 1 {
			for to := range many + 1 {
				must(t, p.Seek(from), api.OK)
				must(t, p.Seek(to), api.OK)
				for _, i := range append(odd(), many+1, many+2, -many) {
					if i >= 0 && i <= many {
						continue
					}
					if e := p.Seek(i); e != api.ErrSessionSeek || p.At() != to {
						t.Fatal(i, e, p.At())
					}
				}
			}
		}
		if len(m.Log()) != 0 {
			t.Fatal(m.Log())
		}
	}
}

// R8: at each place each call is what view is of that record, and reads of the medium just what view reads; Next alone goes on.
func TestR8LooksAtEachPlace(t *testing.T) {
	for parity := range 3 {
		m := recorded(t, by(parity, api.Rung{1, 2, 3, 0}), true, row(small(), 4)...)
		p := player(t, m)
		for range 4 {
			looks(t, m, p, api.MaxSamples)
		}
		if p.At() != 4 {
			t.Fatal(p.At())
		}
		nothing(t, m, p, api.ErrSessionSeek)
		for _, i := range []int{2, 0, 3, 1, 1} {
			must(t, p.Seek(i), api.OK)
			looks(t, m, p, api.MaxSamples)
			if p.At() != i+1 {
				t.Fatal(p.At())
			}
		}
	}
}

// R8: of a reel without records there is nothing to look at.
func TestR8NoRecords(t *testing.T) {
	for _, finished := range []bool{false, true} {
		m := laid(t, label(), finished)
		p := player(t, m)
		nothing(t, m, p, api.ErrSessionSeek)
		must(t, p.Seek(0), api.OK)
		must(t, p.Seek(1), api.ErrSessionSeek)
		kill(t, m)
		nothing(t, m, p, api.ErrSessionSeek)
	}
}

// R8, T7: a slice or a region is read by its head, its table and its payloads, as DOC.md's sixth example has it.
func TestR8ReadsNoMore(t *testing.T) {
	d := flat(api.Shape{Width: 48, Height: 32, Depth: 10}, 100)
	m := recorded(t, by(0, api.Rung{}), true, d, d, d)
	p := player(t, m)
	must(t, p.Seek(1), api.OK)
	const at = 38 + 300 + 16
	read := func(want ...api.Span) {
		t.Helper()
		if l := m.Log(); !slices.Equal(l, want) {
			t.Fatal(l, "and not", want)
		}
		m.Forget()
	}
	h, e := picture.Head(m.Bytes()[at:])
	must(t, e, api.OK)
	list, e := picture.Table(h, m.Bytes()[at+32:])
	must(t, e, api.OK)
	payload := func(k int) api.Span { return api.Span{At: at + list[k].At, Length: list[k].Length} }
	head, table := api.Span{At: at, Length: 32}, api.Span{At: at + 32, Length: 52}
	m.Forget()
	for k := range 6 {
		_, _, e := p.Slice(k)
		must(t, e, api.OK)
		read(head, table, payload(k))
	}
	_, _, e = p.Region(api.Rect{X: 30, Y: 15, W: 4, H: 2})
	must(t, e, api.OK)
	read(head, table, payload(1), payload(2), payload(4), payload(5))
	_, _, e = p.Next()
	must(t, e, api.OK)
	read(head, table, payload(0), payload(1), payload(2), payload(3), payload(4), payload(5))
}

// R8: limits: none of the samples, all but one, just as many, more than may be (which view refuses, and Play does not).
func TestR8Limits(t *testing.T) {
	for _, s := range shapes() {
		n := samples(s)
		m := recorded(t, plain(), true, flat(s, 40), flat(s, 41))
		for _, x := range []struct {
			limit int
			want  api.Errno
		}{
			{0, api.ErrLimit}, {1, api.ErrLimit}, {n - 1, api.ErrLimit}, {n, api.OK}, {n + 1, api.OK}, {api.MaxSamples, api.OK},
			{api.MaxSamples + 1, api.ErrArg}, {math.MaxInt, api.ErrArg},
		} {
			p, e := session.Play(m, x.limit)
			must(t, e, api.OK)
			_, _, e = p.Slice(0)
			must(t, e, x.want)
			_, _, e = p.Region(api.Rect{W: s.Width, H: 1})
			must(t, e, x.want)
			_, _, e = p.Next()
			must(t, e, x.want)
			if want := map[bool]int{true: 1}[x.want == api.OK]; p.At() != want {
				t.Fatal(x, p.At())
			}
			must(t, p.Seek(1), api.OK)
			looksLimited(t, m, p, x.limit)
			// The limit is told ahead of a slice and a region that are not there.
			if x.want != api.OK {
				must(t, p.Seek(0), api.OK)
				_, _, e = p.Slice(-1)
				must(t, e, x.want)
				_, _, e = p.Region(api.Rect{})
				must(t, e, x.want)
			}
		}
	}
}

// looksLimited looks at what a limit lets be read: of what is above it, the head alone.
func looksLimited(t *testing.T, m *medium.Medium, p *session.Player, limit int) {
	t.Helper()
	at := p.At()
	_, r := beside(t, m)
	x, e := r.Receipt(at)
	must(t, e, api.OK)
	m.Forget()
	_, _, e = p.Next()
	l := m.Log()
	switch {
	case e == api.ErrArg && len(l) == 0 && p.At() == at:
	case e == api.ErrLimit && slices.Equal(l, []api.Span{{At: x.At, Length: 32}}) && p.At() == at:
	case e == api.OK && len(l) > 2 && p.At() == at+1:
	default:
		t.Fatal(limit, e, l, p.At())
	}
}

// R8: a record that view refuses stops Next, again and again; it may be gone by with Seek.
func TestR8RecordsThatViewRefuses(t *testing.T) {
	good := coded(t, flat(small(), 500), plain()).Bytes
	spoilt := func(at int) []byte {
		b := slices.Clone(good)
		b[at] ^= 4
		return b
	}
	for _, x := range []struct {
		record []byte
		want   api.Errno
	}{
		{nil, api.ErrPictureHead}, {good[:31], api.ErrPictureHead}, {spoilt(0), api.ErrPictureHead}, {spoilt(31), api.ErrPictureHead},
		{good[:32], api.ErrPictureLength}, {good[:len(good)-1], api.ErrPictureLength}, {append(slices.Clone(good), 0), api.ErrPictureLength},
		{spoilt(32), api.ErrPictureTable}, {spoilt(40), api.ErrPictureTable},
	} {
		m := linked(t, good, x.record, good)
		p := player(t, m)
		if p.Count() != 3 {
			t.Fatal(p.Count())
		}
		looks(t, m, p, api.MaxSamples)
		for range 3 {
			f, report, e := p.Next()
			if !reflect.DeepEqual(f, api.Frame{}) || !reflect.DeepEqual(report, api.Report{}) || e != x.want || p.At() != 1 {
				t.Fatal(e, p.At())
			}
			looks(t, m, p, api.MaxSamples)
		}
		must(t, p.Seek(2), api.OK)
		looks(t, m, p, api.MaxSamples)
		if p.At() != 3 {
			t.Fatal(p.At())
		}
	}
}

// R8: slices that are spoilt are told as view tells them: mended by parity, or lost, and no error; Next goes on.
func TestR8SpoiltSlices(t *testing.T) {
	for parity := range 3 {
		frames := row(small(), 3)
		m := recorded(t, by(parity, api.Rung{}), true, frames...)
		_, r := beside(t, m)
		x, e := r.Receipt(1)
		must(t, e, api.OK)
		spoil(t, m, x, 2)
		p := player(t, m)
		for i := range 3 {
			looks(t, m, p, api.MaxSamples)
			must(t, p.Seek(i), api.OK)
			f, report, e := p.Next()
			must(t, e, api.OK)
			want := make([]api.Mark, 4)
			if i == 1 {
				want[2] = map[bool]api.Mark{true: api.Mended, false: api.Lost}[parity > 0]
			}
			if !slices.Equal(report.Marks, want) || p.At() != i+1 {
				t.Fatal(parity, i, report.Marks, p.At())
			}
			if plane.Same(f, frames[i]) == (want[2] == api.Lost) {
				t.Fatal(parity, i)
			}
		}
	}
}

// spoil writes over a byte of a record's piece on a medium: a payload, or behind these a parity row.
func spoil(t *testing.T, m *medium.Medium, x api.Receipt, k int) {
	t.Helper()
	b := m.Bytes()[x.At:][:x.Length]
	h, e := picture.Head(b)
	must(t, e, api.OK)
	list, e := picture.Table(h, b[32:])
	must(t, e, api.OK)
	at := list[k].At + list[k].Length/2
	must(t, m.Overwrite(x.At+at, []byte{b[at] ^ 85}), api.OK)
}

// R8: a player whose medium is cut off, written over or dead behind Play tells what reel's Record and view tell of what is left.
func TestR8WhatBefallsTheMediumBehindPlay(t *testing.T) {
	frames := row(small(), 3)
	m := recorded(t, plain(), true, frames...)
	whole := m.Bytes()
	_, r := beside(t, m)
	var at [3]api.Receipt
	for i := range at {
		at[i], _ = r.Receipt(i)
	}
	p := player(t, m)

	// Dead: Record can be had, its bytes cannot.
	kill(t, m)
	for i := range 3 {
		must(t, p.Seek(i), api.OK)
		nothing(t, m, p, api.ErrMediumDead)
	}
	m.Revive()
	must(t, p.Seek(0), api.OK)
	looks(t, m, p, api.MaxSamples)

	// Written over: the label, the links and the index have no part in it any more.
	for _, span := range []api.Span{{At: 0, Length: labelSize}, {At: at[0].At - 16, Length: 16}, {At: at[1].At - 16, Length: 16}, {At: len(whole) - 20, Length: 20}} {
		must(t, m.Overwrite(span.At, make([]byte, span.Length)), api.OK)
	}
	must(t, p.Seek(0), api.OK)
	for i := range 3 {
		f, _, e := p.Next()
		must(t, e, api.OK)
		near(t, frames[i], f, api.Rung{})
	}
	must(t, m.Overwrite(at[1].At, []byte("X")), api.OK)
	for i, want := range []api.Errno{api.OK, api.ErrPictureHead, api.OK} {
		must(t, p.Seek(i), api.OK)
		_, _, e := p.Next()
		must(t, e, want)
	}
	must(t, m.Overwrite(0, whole), api.OK)

	// Cut off: a record that does not lie whole in the medium is refused by Record, and nothing is read.
	for cut := len(whole); cut >= 0; cut -= 41 {
		must(t, m.Truncate(cut), api.OK)
		for i := range 3 {
			must(t, p.Seek(i), api.OK)
			if at[i].At+at[i].Length > cut {
				nothing(t, m, p, api.ErrMediumRange)
				continue
			}
			f, _, e := p.Next()
			must(t, e, api.OK)
			near(t, frames[i], f, api.Rung{})
		}
	}
	kill(t, m)
	must(t, p.Seek(1), api.OK)
	nothing(t, m, p, api.ErrMediumRange)
	must(t, p.Seek(3), api.OK)
	nothing(t, m, p, api.ErrSessionSeek)
	// The bytes come back, and all is as it was.
	m.Revive()
	must(t, m.Truncate(0), api.OK)
	m.Append(whole)
	must(t, p.Seek(0), api.OK)
	for range 3 {
		looks(t, m, p, api.MaxSamples)
	}
}
