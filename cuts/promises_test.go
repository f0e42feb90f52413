package cuts_test

import (
	"errors"
	"fmt"
	"slices"
	"strings"
	"sync"
	"testing"

	"dailies/api"
	"dailies/cuts"
)

// loose is a list's text with blanks and remarks strewn in, where they say nothing.
func loose(c *chance, l api.CutList) string {
	gap := func(least int) string {
		s := ""
		for range least + c.below(3)*c.below(2) {
			s += one(c, " ", "\t")
		}
		return s
	}
	remark := func() string {
		return one(c, "", "", "", "#", "# x", "#\"", "# \\ \"y\" #", "#é", "##")
	}
	idle := func() string {
		s := ""
		for c.below(4) == 0 {
			s += gap(0) + remark() + "\n"
		}
		return s
	}
	text := idle()
	for _, line := range strings.Split(strings.TrimSuffix(written(l), "\n"), "\n") {
		all, _ := tokens(line, 0)
		for i, k := range all {
			least := 1
			if i == 0 {
				least = 0
			}
			text += gap(least) + k.raw
		}
		// A remark may begin right behind a text, but not right behind a word.
		if all[len(all)-1].isText() {
			text += gap(0) + remark()
		} else if s := remark(); s != "" {
			text += gap(1) + s
		} else {
			text += gap(0)
		}
		text += "\n" + idle()
	}
	if c.below(2) == 0 {
		text = strings.TrimSuffix(text, "\n")
	}
	return text
}

// fairList is a list by chance that may be and is short enough to be printed.
func fairList(c *chance) api.CutList {
	for {
		l := someList(c)
		if _, e := says(l); e == api.OK && len(written(l)) < 8000 {
			return l
		}
	}
}

func TestP19_1ReadAndWritten(t *testing.T) {
	c := chance(1901)
	for range 8000 {
		l := fairList(&c)
		may(t, l)
		back := parsed(t, loose(&c, l))
		may(t, back)
		if !sameList(back, l) {
			t.Fatalf("%v is read as %v", l, back)
		}
	}
}

func TestP19_2BlanksAndRemarksSayNothing(t *testing.T) {
	c := chance(1902)
	for range 8000 {
		l := fairList(&c)
		a, b := loose(&c, l), loose(&c, l)
		if x, y := parsed(t, a), parsed(t, b); !sameList(x, y) || !sameList(x, l) {
			t.Fatalf("%q is read as %v, and %q as %v", a, x, b, y)
		}
	}
	l := listOf(long(5))
	text := written(l)
	for _, n := range []int{0, 1, 5000, 20000 - len(text)} {
		for _, s := range []string{strings.Repeat(" ", n) + text, strings.Repeat("\n", n) + text, text + strings.Repeat("\t", n), strings.Replace(text, " ", strings.Repeat(" ", n+1), 1)} {
			if x := parsed(t, s); !sameList(x, l) {
				t.Error(n, x)
			}
		}
	}
}

func TestP19_3Lengths(t *testing.T) {
	c := chance(1903)
	for range 5000 {
		l := fairList(&c)
		want := 0
		for i, e := range l.Events {
			want += e.Out - e.In
			if i+1 < len(l.Events) {
				want -= l.Events[i+1].Fade
			}
		}
		n, err := cuts.Length(l)
		if err != nil || n != want || (n == 0) != (len(l.Events) == 0) || n < 0 {
			t.Fatal(l, n, err, want)
		}
	}
}

// spoilt is a text with a few things in it changed by chance.
func spoilt(c *chance, s string) string {
	bits := []string{" ", "\t", "\n", "#", "\"", "\\", "\\\"", "\\n", "\\\\", "\\x", "a", "0", "9", ":", ";", "d", "cut", "fade", "list", "fade 5 ", "é", "\xff", "\xc3", "\ufffd", "\r", "25", "30d", t0, t1, "\"x\"", "\"\"", "-", "_", "A", strings.Repeat("y", 101)}
	for range 1 + c.below(3) {
		at := c.below(len(s) + 1)
		end := min(at+c.below(one(c, 2, 3, 15)), len(s))
		switch c.below(6) {
		case 0:
			s = s[:at] + s[end:]
		case 1, 2:
			s = s[:at] + one(c, bits...) + s[at:]
		case 3:
			s = s[:at] + one(c, bits...) + s[end:]
		case 4:
			lines := strings.SplitAfter(s, "\n")
			i, j := c.below(len(lines)), c.below(len(lines))
			lines[i], lines[j] = lines[j], lines[i]
			s = strings.Join(lines, "")
		case 5:
			words := strings.SplitAfter(s, " ")
			i, j := c.below(len(words)), c.below(len(words))
			words[i], words[j] = words[j], words[i]
			s = strings.Join(words, "")
		}
	}
	return s
}

// soup is words one behind the other, as they come.
func soup(c *chance) string {
	words := []string{"list", "25", "60d", "cut", "fade", "5", "100", "a", "b-2", t0, t1, t2, t9, "\"\"", "\"n\"", "\"", "\"\\x\"", "#", "# r", "x\"y", "é", "\\"}
	s := ""
	if c.below(2) == 0 {
		s = head
	}
	for range c.below(12) {
		s += one(c, words...) + one(c, " ", " ", " ", " ", "\t", "\n", "")
	}
	return s
}

func TestC2TextsByChance(t *testing.T) {
	c := chance(1904)
	read, kinds := 0, map[api.Errno]int{}
	try := func(s string) {
		if asSaid(t, s) {
			read++
		} else {
			_, _, e := reads(s)
			kinds[e]++
		}
	}
	for range 12000 {
		l := fairList(&c)
		l.Events = l.Events[:min(len(l.Events), 5)]
		try(spoilt(&c, loose(&c, l)))
		try(spoilt(&c, written(l)))
	}
	for range 30000 {
		try(soup(&c))
	}
	if read < 1500 {
		t.Error("too few were read:", read)
	}
	for _, e := range []api.Errno{api.ErrCutsLong, api.ErrCutsUTF8, api.ErrCutsWord, api.ErrCutsTime, api.ErrCutsOrder} {
		if kinds[e] < 100 {
			t.Error("too few of error", e, kinds)
		}
	}
}

// Every beginning of a text, and every one with a byte left out: each is read or refused as the chapter says.
func TestC2EveryBeginning(t *testing.T) {
	s := " # x\nlist\t30d \"a \\\"b\\\\\\n\" #\n\ncut a 00:00:59;28 00:01:00;12 \"é\"# y\n\tfade 10 b_2 00:00:00;00 00:10:00;00\nfade 7 c 00:00:00;03 00:00:00;10 \"\"\n"
	parsed(t, s)
	for at := range len(s) + 1 {
		asSaid(t, s[:at])
		asSaid(t, s[at:])
		if at < len(s) {
			asSaid(t, s[:at]+s[at+1:])
			for b := range 256 {
				asSaid(t, s[:at]+string([]byte{byte(b)})+s[at+1:])
				asSaid(t, s[:at]+string([]byte{byte(b)})+s[at:])
			}
		}
	}
}

// Both errors wrap their number, and are new each time.
func TestErrorsAreAsked(t *testing.T) {
	_, err := cuts.Parse("list 24")
	var f *api.Fault
	var w *cuts.EventError
	var n api.Errno
	if !errors.As(err, &f) || errors.As(err, &w) || !errors.As(err, &n) || n != api.ErrCutsWord || !errors.Is(err, api.ErrCutsWord) || errors.Is(err, api.ErrCutsTime) || err.Error() != "dailies: error 193 at 7" {
		t.Error(err)
	}
	f.At, f.Err = 99, api.ErrArg
	refused(t, "list 24", api.ErrCutsWord, 7)

	l := listOf(long(1), fading(2, 2))
	for _, err := range allErrors(l) {
		f, w, n = nil, nil, 0
		if !errors.As(err, &w) || errors.As(err, &f) || !errors.As(err, &n) || n != api.ErrCutsOrder || !errors.Is(err, api.ErrCutsOrder) || errors.Is(err, api.ErrCutsLong) || err.Error() != "dailies: event 1: dailies: error 195" {
			t.Error(err)
		}
		w.Event, w.Err = 99, api.ErrArg
	}
	notMay(t, l, 1, api.ErrCutsOrder)

	// No error is nil as an error.
	l.Events = l.Events[:1]
	for _, err := range allErrors(l) {
		if err != nil {
			t.Error(err)
		}
	}
	if _, err := cuts.Parse(head); err != nil {
		t.Error(err)
	}
}

// allErrors are what Check, Print and Length tell of a list.
func allErrors(l api.CutList) []error {
	_, p := cuts.Print(l)
	_, n := cuts.Length(l)
	return []error{cuts.Check(l), p, n}
}

// No call writes into the list that it was handed, nor behind its events.
func TestP3ListsStayAsTheyAre(t *testing.T) {
	c := chance(1905)
	for range 3000 {
		l := someList(&c)
		room := append(slices.Clone(l.Events), api.Event{Reel: "behind", In: -7}, api.Event{Note: "\xff"})
		l.Events = room[:len(l.Events)]
		was, whole := l, slices.Clone(room)
		cuts.Check(l)
		cuts.Print(l)
		cuts.Length(l)
		if !sameList(l, was) || !slices.Equal(room, whole) {
			t.Fatalf("%v became %v", whole, room)
		}
	}
}

// What Parse tells is the caller's own: written into, and into its spare room, it changes no other answer.
func TestP3AnswersAreNewMemory(t *testing.T) {
	s := head + strings.Repeat(shot, 5)
	a, b := parsed(t, s), parsed(t, s)
	for i := range a.Events[:cap(a.Events)] {
		a.Events[:cap(a.Events)][i] = api.Event{Reel: "other", In: i}
	}
	if !sameList(b, parsed(t, s)) || b.Events[0].Reel != "a" {
		t.Error(b)
	}
}

// Many hands at once: each is answered as if it were alone.
func TestP4ManyHands(t *testing.T) {
	l := listOf(long(50), fading(5, 20), fading(6, 30))
	text := written(l)
	var hands sync.WaitGroup
	wrong := make([]string, 8)
	for h := range wrong {
		hands.Go(func() {
			for range 200 {
				s, err := cuts.Print(l)
				back, err2 := cuts.Parse(s)
				n, err3 := cuts.Length(back)
				_, err4 := cuts.Parse(text + "x")
				if s != text || err != nil || err2 != nil || !sameList(back, l) || n != 89 || err3 != nil || !errors.Is(err4, api.ErrCutsWord) {
					wrong[h] = fmt.Sprint(s, err, err2, back, n, err3, err4)
				}
			}
		})
	}
	hands.Wait()
	if s := strings.Join(wrong, ""); s != "" {
		t.Error(s)
	}
}
