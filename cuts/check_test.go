package cuts_test

import (
	"fmt"
	"math"
	"slices"
	"strings"
	"testing"

	"dailies/api"
	"dailies/cuts"
)

// listOf is a list of rate 25 with these events.
func listOf(events ...api.Event) api.CutList {
	return api.CutList{Title: "t", Rate: api.Rate25, Events: events}
}

// long is an event of so many frames.
func long(n int) api.Event { return api.Event{Reel: "a", In: 100, Out: 100 + n} }

// fading is an event of so many frames, of which so many fade.
func fading(fade, n int) api.Event { return api.Event{Reel: "b", In: 7, Out: 7 + n, Fade: fade} }

// manyEvents are so many short ones.
func manyEvents(n int) []api.Event { return slices.Repeat([]api.Event{long(1)}, n) }

// noUTF8 are texts that are none.
func noUTF8() []string {
	return []string{"\xff", "\x80", "a\xc3", "\xc3(", "\xe2\x82", "\xed\xa0\x80", "\xf4\x90\x80\x80", "\xc0\xaf", "é\xa9", strings.Repeat("a", 99) + "\xe9", "\ufffd\xfd"}
}

// titles are texts that may be one.
func titles() []string {
	return []string{"", "a", " ", "\t", "#", "Day One", "\"", "\\", "\n", "\\n", "\\\"", "a\nb", "\r", "\x00", "\x7f", "é", "日本", "😀", "\ufffd", "\u2028", "# \"no\" remark", "\n\n\n",
		strings.Repeat("x", 100), strings.Repeat("é", 50), strings.Repeat("\"", 100), strings.Repeat("\\", 100), strings.Repeat("\n", 100), strings.Repeat("日", 33) + "a"}
}

func TestC1Titles(t *testing.T) {
	for _, s := range titles() {
		l := api.CutList{Title: s, Rate: 2}
		may(t, l)
		l.Events = []api.Event{{Reel: "a", Out: 1, Note: s}}
		may(t, l)
	}
	for _, s := range []string{strings.Repeat("x", 101), strings.Repeat("é", 50) + "x", strings.Repeat("日", 34), strings.Repeat("y", 1000), strings.Repeat("\xff", 101), strings.Repeat("x", 20001)} {
		notMay(t, api.CutList{Title: s, Rate: 2}, -1, api.ErrCutsLong)
		notMay(t, listOf(long(1), api.Event{Reel: "a", Out: 1, Note: s}), 1, api.ErrCutsLong)
	}
	for _, s := range noUTF8() {
		notMay(t, api.CutList{Title: s, Rate: 2}, -1, api.ErrCutsUTF8)
		notMay(t, listOf(long(1), long(2), api.Event{Reel: "a", Out: 1, Note: s}), 2, api.ErrCutsUTF8)
	}
}

func TestC1Rates(t *testing.T) {
	for _, r := range allRates() {
		may(t, api.CutList{Rate: r})
	}
	for _, r := range []api.Rate{0, 8, -1, -2, -7, -8, 9, 24, 25, 30, 50, 60, 256, 257, 1<<32 + 2, 1<<62 + 1, math.MinInt, math.MinInt + 2, math.MaxInt, math.MinInt32, math.MaxInt32} {
		notMay(t, api.CutList{Rate: r}, -1, api.ErrTimecodeRate)
		notMay(t, api.CutList{Rate: r, Events: []api.Event{{Reel: "a", Out: 1}}}, -1, api.ErrTimecodeRate)
	}
}

func TestC1HowManyEvents(t *testing.T) {
	for _, n := range []int{0, 1, 2, 199, 200} {
		may(t, listOf(manyEvents(n)...))
	}
	may(t, api.CutList{Rate: 1, Events: []api.Event{}})
	for _, n := range []int{201, 202, 256, 1000} {
		notMay(t, listOf(manyEvents(n)...), -1, api.ErrCutsMany)
	}
}

func TestC1Names(t *testing.T) {
	named := func(s string) api.CutList { return listOf(long(3), api.Event{Reel: s, Out: 1}) }
	for _, s := range []string{"a", "z", "m", "0", "9", "_", "-", "a0", "-a", "--", "abcdefghijklmnop", "0123456789_-qrst", "uvwxyz", "cut", "fade", "list", "25"} {
		may(t, named(s))
	}
	for _, s := range []string{"", "abcdefghijklmnopq", "aaaaaaaaaaaaaaaaaaaaaaaaaaaaaaaaaaaaaaaa", "é", "ａ", "a é", "aaaaaaaaaaaaaaaé", "\xff", "a\xe1", "\ufffd"} {
		notMay(t, named(s), 1, api.ErrCutsWord)
	}
	for b := range 256 {
		for _, s := range []string{string([]byte{byte(b)}), "a" + string([]byte{byte(b)}), string([]byte{byte(b)}) + "z", "abcdefg" + string([]byte{byte(b)}) + "ijklmnop"} {
			if strings.IndexByte("abcdefghijklmnopqrstuvwxyz0123456789_-", byte(b)) >= 0 {
				may(t, named(s))
			} else {
				notMay(t, named(s), 1, api.ErrCutsWord)
			}
		}
	}
}

func TestC1Times(t *testing.T) {
	for _, r := range allRates() {
		day := perDay(r)
		timed := func(in, out int) api.CutList {
			return api.CutList{Rate: r, Events: []api.Event{{Reel: "a", Out: 1}, {Reel: "a", In: in, Out: out}}}
		}
		for _, x := range [][2]int{{0, 1}, {1, 2}, {0, day - 1}, {day - 2, day - 1}, {17, 4711}} {
			may(t, timed(x[0], x[1]))
		}
		for _, x := range [][2]int{{0, 0}, {1, 1}, {5, 5}, {2, 1}, {1, 0}, {day - 1, 0}, {day - 1, day - 1}, {day - 1, day - 2}, {day - 1, day}, {0, day}, {day - 2, day}, {day, day}, {day, day + 1}, {0, day + 1},
			{-1, 0}, {-1, 1}, {-1, -1}, {-2, -1}, {0, -1}, {1, -1}, {math.MinInt, 1}, {math.MinInt, math.MinInt + 1}, {math.MinInt, math.MaxInt}, {math.MinInt, 0}, {0, math.MaxInt}, {0, math.MinInt},
			{math.MaxInt, math.MinInt}, {math.MaxInt - 1, math.MaxInt}, {math.MaxInt, math.MaxInt}, {math.MaxInt, 1}, {1 << 32, 1<<32 + 1}, {-1 << 32, 1}, {0, 1<<32 + 1}, {0, 1 << 32}, {1<<62 + 1, 2}} {
			notMay(t, timed(x[0], x[1]), 1, api.ErrCutsTime)
		}
	}
}

func TestC1Fades(t *testing.T) {
	for _, x := range []struct {
		events []api.Event
		at     int // -1: it may be
	}{
		{[]api.Event{long(500), fading(0, 500)}, -1},
		{[]api.Event{long(500), fading(1, 500)}, -1},
		{[]api.Event{long(500), fading(99, 500)}, -1},
		{[]api.Event{long(500), fading(100, 500)}, -1},
		{[]api.Event{long(500), fading(101, 500)}, 1},
		{[]api.Event{long(500), fading(102, 500)}, 1},
		{[]api.Event{long(500), fading(-1, 500)}, 1},
		{[]api.Event{long(500), fading(-100, 500)}, 1},
		{[]api.Event{long(500), fading(math.MaxInt, 500)}, 1},
		{[]api.Event{long(500), fading(math.MinInt, 500)}, 1},
		{[]api.Event{long(500), fading(1<<32+1, 500)}, 1},
		{[]api.Event{long(500), fading(256, 500)}, 1},
		// In the first event.
		{[]api.Event{fading(0, 5)}, -1},
		{[]api.Event{fading(1, 5)}, 0},
		{[]api.Event{fading(-1, 5)}, 0},
		{[]api.Event{fading(100, 500), long(500)}, 0},
		// As long as this event, and one more.
		{[]api.Event{long(50), fading(9, 10)}, -1},
		{[]api.Event{long(50), fading(10, 10)}, -1},
		{[]api.Event{long(50), fading(11, 10)}, 1},
		{[]api.Event{long(500), fading(100, 100)}, -1},
		{[]api.Event{long(500), fading(100, 99)}, 1},
		{[]api.Event{long(1), fading(1, 1)}, -1},
		// As long as the event ahead, or as what is left of it, and one more.
		{[]api.Event{long(10), fading(10, 50)}, -1},
		{[]api.Event{long(10), fading(11, 50)}, 1},
		{[]api.Event{long(100), fading(100, 500)}, -1},
		{[]api.Event{long(99), fading(100, 500)}, 1},
		{[]api.Event{long(50), fading(4, 10), fading(6, 50)}, -1},
		{[]api.Event{long(50), fading(4, 10), fading(7, 50)}, 2},
		{[]api.Event{long(50), fading(10, 10), fading(0, 50)}, -1},
		{[]api.Event{long(50), fading(10, 10), fading(1, 50)}, 2},
		{[]api.Event{long(3), {Reel: "b", Out: 2, Fade: 2}, {Reel: "c", Out: 5, Fade: 1}}, 2},
		{[]api.Event{long(200), fading(100, 200), fading(100, 200), fading(100, 100), fading(0, 1), fading(1, 1)}, -1},
		{[]api.Event{long(200), fading(100, 200), fading(100, 199), fading(100, 200)}, 3},
		// What stands two events ahead says nothing.
		{[]api.Event{long(500), long(5), fading(6, 50)}, 2},
		{[]api.Event{long(5), long(500), fading(60, 70)}, -1},
	} {
		if l := listOf(x.events...); x.at < 0 {
			may(t, l)
		} else {
			notMay(t, l, x.at, api.ErrCutsOrder)
		}
	}
}

// Of each two things that are wrong the one that is named first is told.
func TestC1TheFirstOfSeveral(t *testing.T) {
	type fault struct {
		spoil func(l *api.CutList)
		event int
		e     api.Errno
	}
	whole := func() api.CutList { return listOf(long(50), fading(5, 20), fading(6, 30)) }
	faults := []fault{
		{func(l *api.CutList) { l.Title = strings.Repeat("x", 101) }, -1, api.ErrCutsLong},
		{func(l *api.CutList) { l.Title += "\xff" }, -1, api.ErrCutsUTF8},
		{func(l *api.CutList) { l.Rate = 0 }, -1, api.ErrTimecodeRate},
		{func(l *api.CutList) { l.Events = append(l.Events, manyEvents(198)...) }, -1, api.ErrCutsMany},
	}
	for i := range 3 {
		faults = append(faults,
			fault{func(l *api.CutList) { l.Events[i].Reel = "A" }, i, api.ErrCutsWord},
			fault{func(l *api.CutList) { l.Events[i].Out = l.Events[i].In }, i, api.ErrCutsTime},
			fault{func(l *api.CutList) { l.Events[i].Fade = 101 }, i, api.ErrCutsOrder},
			fault{func(l *api.CutList) { l.Events[i].Note = strings.Repeat("y", 101) }, i, api.ErrCutsLong},
			fault{func(l *api.CutList) { l.Events[i].Note += "\xc3" }, i, api.ErrCutsUTF8})
	}
	may(t, whole())
	for i, first := range faults {
		for _, then := range faults[i:] {
			l := whole()
			then.spoil(&l)
			first.spoil(&l)
			notMay(t, l, first.event, first.e)
		}
	}
	l := whole()
	for i := range faults {
		faults[len(faults)-1-i].spoil(&l)
	}
	l.Title = strings.Repeat("\xff", 101)
	notMay(t, l, -1, api.ErrCutsLong)
}

// An event is told by its number from 0 on, wherever it stands.
func TestC1TheEventsNumber(t *testing.T) {
	for i := range 200 {
		l := listOf(manyEvents(200)...)
		l.Events[i].Reel = ""
		notMay(t, l, i, api.ErrCutsWord)
		l.Events[i] = api.Event{Reel: "a", In: 1, Out: 1}
		notMay(t, l, i, api.ErrCutsTime)
		l.Events[i] = api.Event{Reel: "a", Out: 10, Fade: 2}
		notMay(t, l, i, api.ErrCutsOrder)
	}
}

// someList is a list by chance, which often may be.
func someList(c *chance) api.CutList {
	l := api.CutList{Title: one(c, titles()...), Rate: api.Rate(1 + c.below(7))}
	if c.below(40) == 0 {
		l.Title += one(c, "\xff", strings.Repeat("z", 100))
	}
	if c.below(40) == 0 {
		l.Rate = api.Rate(c.below(20) - 10)
	}
	n := c.below(8)
	if c.below(30) == 0 {
		n = 198 + c.below(5)
	}
	for range n {
		l.Events = append(l.Events, someEvent(c, perDay(l.Rate)))
	}
	return l
}

// someEvent is an event by chance.
func someEvent(c *chance, day int) api.Event {
	e := api.Event{Reel: one(c, "a", "b-2", "abcdefghijklmnop", "_", "9"), In: c.below(max(day-300, 1)), Note: one(c, "", "", "", one(c, titles()...))}
	e.Out = e.In + 1 + c.below(one(c, 3, 20, 300))
	if c.below(3) == 0 {
		e.Fade = c.below(one(c, 2, 4, 20, 102))
	}
	switch c.below(200) {
	case 0:
		e.Reel = one(c, "", "A", "abcdefghijklmnopq", "a b", "é", "\xff")
	case 1:
		e.In, e.Out = e.Out, e.In
	case 2:
		e.Out = e.In
	case 3:
		e.Fade = one(c, -1, 101, math.MaxInt, math.MinInt)
	case 4:
		e.Note += one(c, "\xe9", strings.Repeat("long", 26))
	case 5:
		e.In = one(c, -1, math.MinInt, math.MaxInt)
	case 6:
		e.Out = one(c, day-1, day, day+1, math.MaxInt)
	}
	return e
}

func TestC1ListsByChance(t *testing.T) {
	c := chance(191)
	may, not := 0, map[string]int{}
	for range 30000 {
		l := someList(&c)
		if holds(t, l) {
			may++
		} else {
			event, e := says(l)
			not[fmt.Sprint(event >= 0, e)]++
		}
	}
	if may < 3000 || len(not) < 8 {
		t.Error("too few of one kind were tried:", may, not)
	}
}

func TestEventErrorTellsItself(t *testing.T) {
	for _, x := range []struct {
		event int
		e     api.Errno
		want  string
	}{
		{-1, api.ErrTimecodeRate, "dailies: event -1: dailies: error 181"},
		{0, api.ErrCutsLong, "dailies: event 0: dailies: error 191"},
		{199, api.ErrCutsOrder, "dailies: event 199: dailies: error 195"},
		{-20, 0, "dailies: event -20: dailies: error 0"},
		{7, -3, "dailies: event 7: dailies: error -3"},
		{math.MaxInt, api.Errno(math.MaxInt32), "dailies: event 9223372036854775807: dailies: error 2147483647"},
		{math.MinInt, api.ErrArg, "dailies: event -9223372036854775808: dailies: error 1"},
	} {
		err := &cuts.EventError{Event: x.event, Err: x.e}
		if err.Error() != x.want {
			t.Error(err.Error(), "and not", x.want)
		}
		if n, ok := err.Unwrap().(api.Errno); !ok || n != x.e {
			t.Error(err, "wraps", err.Unwrap())
		}
	}
}
