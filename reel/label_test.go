package reel_test

import (
	"strings"
	"testing"

	"dailies/api"
	"dailies/medium"
	"dailies/reel"
)

// titlesThatMayBe have no bytes up to MaxTitle of them.
func titlesThatMayBe() []string {
	return []string{"", "a", "Day One", "\x00", "\x7f\n", "REEL", "LINK", "é", "日本語", "\U0010ffff", "\ufffd",
		strings.Repeat("x", 99), strings.Repeat("x", 100), strings.Repeat("é", 50), strings.Repeat("日", 33) + "x", strings.Repeat("\U0001f3ac", 25)}
}

// titlesThatMayNotBe are too long, or no UTF-8.
func titlesThatMayNotBe() []string {
	return []string{strings.Repeat("x", 101), strings.Repeat("é", 51), strings.Repeat("x", 256), strings.Repeat("x", 257), strings.Repeat("x", 300),
		"\xff", "a\x80", "\xc0\x80", "\xed\xa0\x80", "\xf4\x90\x80\x80", "日本"[:5], strings.Repeat("x", 99) + "\xc3", strings.Repeat("x", 99) + "é", strings.Repeat("\xff", 101)}
}

// ratesThatMayNotBe are 0, 8 and others; some have a last byte that may be.
func ratesThatMayNotBe() []api.Rate {
	return []api.Rate{0, 8, -1, 9, 255, 256, 257, 258, -255, 1<<32 + 1, 1<<63 - 1, -1 << 63, 24, 25}
}

// startsThatMayNotBe are -1, 5184000 and others; some have last bytes that may be.
func startsThatMayNotBe() []int {
	return []int{-1, 5184000, -2, 5184001, 1 << 24, 1<<31 - 1, 1 << 31, 1<<32 - 1, 1 << 32, 1<<32 + 1, 1<<63 - 1, -1 << 63, -1 << 32}
}

// labelsThatMayNotBe have one part that may not be, or several.
func labelsThatMayNotBe() []api.Label {
	list := []api.Label{{}, {Title: "\xff", Rate: 8, Start: -1}}
	for _, title := range titlesThatMayNotBe() {
		list = append(list, api.Label{Title: title, Rate: 1})
	}
	for _, rate := range ratesThatMayNotBe() {
		list = append(list, api.Label{Title: "a", Rate: rate})
	}
	for _, start := range startsThatMayNotBe() {
		list = append(list, api.Label{Title: "a", Rate: 7, Start: start})
	}
	return list
}

// R1, P16.1: Create lays down just the label, whatever label may be; opened, it is the label.
func TestR1CreateLaysTheLabelDown(t *testing.T) {
	for _, title := range titlesThatMayBe() {
		for rate := api.Rate(1); rate <= 7; rate++ {
			for _, start := range []int{0, 1, 255, 256, 65536, 5183998, 5183999} {
				l := api.Label{Title: title, Rate: rate, Start: start}
				m, w := created(t, l)
				if string(m.Bytes()) != saidLabel(l) || m.Size() != 15+len(title) || w.Count() != 0 {
					t.Fatalf("%+v: %q, %d", l, m.Bytes(), w.Count())
				}
				if len(m.Log()) != 0 {
					t.Fatal("Create read")
				}
				r, s := opens(t, m)
				if r == nil || s.label != l || r.Label() != l || r.Count() != 0 || r.Finished() {
					t.Fatalf("%+v: %+v", l, r)
				}
			}
		}
	}
}

// R1: labels that may not be are refused, and nothing is written.
func TestR1CreateRefusesLabels(t *testing.T) {
	for _, l := range labelsThatMayNotBe() {
		m := medium.New()
		if w, e := reel.Create(m, l); w != nil || e != api.ErrReelLabel {
			t.Fatalf("%+v: %v, %v", l, w, e)
		}
		if m.Size() != 0 || m.Dead() {
			t.Fatal("refused, and written")
		}
	}
}

// R1, P2: of several errors the one that is named first: a medium that is nil, the label, bytes that are there, the medium's own.
func TestR1CreateNamesTheFirstError(t *testing.T) {
	good, bad := api.Label{Title: "a", Rate: 2}, api.Label{Title: "a", Rate: 8}
	for _, x := range []struct {
		m    *medium.Medium
		l    api.Label
		want api.Errno
	}{
		{nil, good, api.ErrArg},
		{nil, bad, api.ErrArg},
		{load(t, "x"), bad, api.ErrReelLabel},
		{dead(t, "x"), bad, api.ErrReelLabel},
		{dead(t, ""), bad, api.ErrReelLabel},
		{load(t, "x"), good, api.ErrReelThere},
		{dead(t, "x"), good, api.ErrReelThere},
		{load(t, saidLabel(good)), good, api.ErrReelThere},
		{dead(t, ""), good, api.ErrMediumDead},
	} {
		text := ""
		if x.m != nil {
			text = string(x.m.Bytes())
		}
		if w, e := reel.Create(x.m, x.l); w != nil || e != x.want {
			t.Errorf("%+v: %v, %v; not %v", x.l, w, e, x.want)
		}
		if x.m != nil && string(x.m.Bytes()) != text {
			t.Error("refused, and written")
		}
	}
}

// R1: the label is one Append: a medium that dies in it keeps a beginning, which is no reel, unless all of it stayed.
func TestR1CreateIsOneAppend(t *testing.T) {
	l := api.Label{Title: "Day", Rate: 5, Start: 90}
	want := saidLabel(l)
	for keep := range len(want) + 3 {
		m := medium.New()
		must(t, m.Arm(1, keep), api.OK)
		if w, e := reel.Create(m, l); w != nil || e != api.ErrMediumDead {
			t.Fatal(keep, w, e)
		}
		if string(m.Bytes()) != want[:min(keep, len(want))] || !m.Dead() {
			t.Fatalf("%d: %q", keep, m.Bytes())
		}
		m.Revive()
		r, e := reel.Open(m)
		if whole := keep >= len(want); whole != (r != nil) || !whole && e != api.ErrReelNone {
			t.Fatal(keep, r, e)
		}
	}
	m := medium.New()
	must(t, m.Arm(2, 0), api.OK)
	w, e := reel.Create(m, l)
	must(t, e, api.OK)
	if x, e := w.Add([]byte(record(""))); x != (api.Receipt{}) || e != api.ErrMediumDead || string(m.Bytes()) != want {
		t.Fatal(x, e)
	}
}

// R5: a label is right only as a whole: with any one byte another one there is no reel.
func TestR5LabelsOfWhichOneByteIsAnother(t *testing.T) {
	for _, title := range []string{"", "Day One", strings.Repeat("日", 33)} {
		text := said{label: api.Label{Title: title, Rate: 2, Start: 5183999}, texts: []string{record("x")}, finished: true}.bytes()
		for at := range 15 + len(title) {
			for v := range 256 {
				if byte(v) == text[at] {
					continue
				}
				m := load(t, text[:at]+string([]byte{byte(v)})+text[at+1:])
				if r, e := reel.Open(m); r != nil || e != api.ErrReelNone {
					t.Fatal(title, at, v, r, e)
				}
				if w, e := reel.Continue(m); w != nil || e != api.ErrReelNone || m.Size() != len(text) {
					t.Fatal(title, at, v, w, e)
				}
			}
		}
	}
}

// R5: labels whose sum is right, and which may not be, are none.
func TestR5LabelsThatMayNotBeThoughTheirSumIsRight(t *testing.T) {
	texts := []string{"REEL\x02\x01\x00" + four(0), "REEL\x00\x01\x00" + four(0), "REEK\x01\x01\x00" + four(0), "LINK\x01\x01\x00" + four(0), "reel\x01\x01\x00" + four(0)}
	for _, rate := range []byte{0, 8, 9, 128, 255} {
		texts = append(texts, "REEL\x01"+string([]byte{rate})+"\x00"+four(0))
	}
	for _, start := range []int{5184000, 5184001, 1 << 24, 1 << 31, 1<<32 - 1} {
		texts = append(texts, "REEL\x01\x01\x01a"+four(start))
	}
	for _, title := range titlesThatMayNotBe() {
		if len(title) < 256 {
			texts = append(texts, "REEL\x01\x01"+string([]byte{byte(len(title))})+title+four(0))
		}
	}
	for _, text := range texts {
		for _, behind := range []string{"", saidLink(0, 0), strings.Repeat("\x00", 300)} {
			if r, e := reel.Open(load(t, withSum(text)+behind)); r != nil || e != api.ErrReelNone {
				t.Fatalf("%q: %v, %v", text, r, e)
			}
		}
	}
	for _, title := range titlesThatMayBe() {
		l := api.Label{Title: title, Rate: 7, Start: 5183999}
		if r, e := reel.Open(load(t, saidLabel(l))); e != api.OK || r.Label() != l {
			t.Fatalf("%q: %v", title, e)
		}
	}
}

// R5: of other bytes there is no reel, the medium's death is told ahead of that, and nil ahead of all.
func TestR5OpenRefuses(t *testing.T) {
	whole := saidLabel(api.Label{Title: "a", Rate: 2})
	if r, e := reel.Open(nil); r != nil || e != api.ErrArg {
		t.Error(r, e)
	}
	if w, e := reel.Continue(nil); w != nil || e != api.ErrArg {
		t.Error(w, e)
	}
	for _, text := range []string{"", "R", "REEL", "REEL\x01\x02\x64", "REEL\x01\x02\xff", "\x00" + whole, "x", strings.Repeat("REEL", 100), saidLink(0, 0), saidIndex() + saidFoot(0)} {
		if r, e := reel.Open(load(t, text)); r != nil || e != api.ErrReelNone {
			t.Errorf("%q: %v, %v", text, r, e)
		}
		if w, e := reel.Continue(load(t, text)); w != nil || e != api.ErrReelNone {
			t.Errorf("%q: %v, %v", text, w, e)
		}
	}
	finished := said{label: api.Label{Title: "a", Rate: 2}, finished: true}.bytes()
	for _, text := range []string{"", "x", whole, whole + "x", finished} {
		m := dead(t, text)
		if r, e := reel.Open(m); r != nil || e != api.ErrMediumDead {
			t.Errorf("%q: %v, %v", text, r, e)
		}
		if w, e := reel.Continue(m); w != nil || e != api.ErrMediumDead || string(m.Bytes()) != text {
			t.Errorf("%q: %v, %v", text, w, e)
		}
	}
}
