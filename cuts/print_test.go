package cuts_test

import (
	"slices"
	"strings"
	"testing"

	"dailies/api"
	"dailies/cuts"
)

func TestC3TheOneWay(t *testing.T) {
	for _, x := range []struct {
		l    api.CutList
		want string
	}{
		{api.CutList{Rate: 1}, "list 24 \"\"\n"},
		{api.CutList{Rate: 2, Title: "a b"}, "list 25 \"a b\"\n"},
		{api.CutList{Rate: 3, Title: "#"}, "list 30 \"#\"\n"},
		{api.CutList{Rate: 4, Title: "\t\r\x00"}, "list 30d \"\t\r\x00\"\n"},
		{api.CutList{Rate: 5, Title: "\"\\\n"}, "list 50 \"\\\"\\\\\\n\"\n"},
		{api.CutList{Rate: 6, Title: "é日😀\ufffd"}, "list 60 \"é日😀\ufffd\"\n"},
		{api.CutList{Rate: 7, Title: "\\n"}, "list 60d \"\\\\n\"\n"},
		{listOf(api.Event{Reel: "a", In: 25, Out: 50}), "list 25 \"t\"\ncut a 00:00:01:00 00:00:02:00\n"},
		{listOf(api.Event{Reel: "a", In: 25, Out: 50, Note: "x"}), "list 25 \"t\"\ncut a 00:00:01:00 00:00:02:00 \"x\"\n"},
		{listOf(api.Event{Reel: "a", Out: 2159999}, api.Event{Reel: "-b", In: 1, Out: 101, Fade: 100, Note: "\n\""}),
			"list 25 \"t\"\ncut a 00:00:00:00 23:59:59:24\nfade 100 -b 00:00:00:01 00:00:04:01 \"\\n\\\"\"\n"},
		{api.CutList{Rate: 4, Events: []api.Event{{Reel: "a", In: 1799, Out: 1800}, {Reel: "b", Out: 17982, Fade: 1}}},
			"list 30d \"\"\ncut a 00:00:59;29 00:01:00;02\nfade 1 b 00:00:00;00 00:10:00;00\n"},
	} {
		if s, err := cuts.Print(x.l); s != x.want || err != nil {
			t.Errorf("Print of %v is %q, %v", x.l, s, err)
		}
		may(t, x.l)
	}
}

// sized is a list that may be whose text has so many bytes.
func sized(n int) api.CutList {
	l := api.CutList{Rate: 2}
	for len(written(l)) < n-300 {
		l.Events = append(l.Events, api.Event{Reel: "abcdefghijklmnop", Out: 500, Note: strings.Repeat("\"", 50)})
	}
	for len(written(l)) < n-60 {
		l.Events = append(l.Events, api.Event{Reel: "a", Out: 500})
	}
	l.Title = strings.Repeat("t", n-len(written(l)))
	return l
}

// A text of just as many bytes as may be is printed, one of one byte more is not.
func TestC3LongTexts(t *testing.T) {
	for _, n := range []int{1000, 19998, 19999, 20000} {
		l := sized(n)
		if s, err := cuts.Print(l); len(s) != n || err != nil {
			t.Error(n, len(s), err)
		}
		may(t, l)
	}
	for _, n := range []int{20001, 20002, 21000} {
		l := sized(n)
		if s, err := cuts.Print(l); s != "" {
			t.Error(n, len(s), err)
		} else {
			isOf(t, "Print", err, -1, api.ErrCutsLong)
		}
		may(t, l)
	}
	// A list that may not be is told as such, however long its text were.
	l := sized(20001)
	l.Events[3].Fade = 101
	notMay(t, l, 3, api.ErrCutsOrder)
}

// All events as long as they may be: Check and Length let it be, Print does not.
func TestC3TheLongestList(t *testing.T) {
	l := api.CutList{Rate: 7, Title: strings.Repeat("\n", 100), Events: slices.Repeat([]api.Event{{Reel: "abcdefghijklmnop", In: 5178615, Out: 5178815, Note: strings.Repeat("\\", 100)}}, 200)}
	for i := range l.Events[1:] {
		l.Events[i+1].Fade = 100
	}
	if len(written(l)) <= 20000 {
		t.Fatal("too short")
	}
	may(t, l)
}

func TestC4Lengths(t *testing.T) {
	for _, x := range []struct {
		events []api.Event
		want   int
	}{
		{nil, 0}, {[]api.Event{}, 0}, {[]api.Event{long(1)}, 1}, {[]api.Event{long(500)}, 500}, {[]api.Event{{Reel: "a", Out: 2159999}}, 2159999},
		{[]api.Event{long(5), fading(5, 5)}, 5}, {[]api.Event{long(1), fading(1, 1)}, 1}, {[]api.Event{long(25), fading(5, 10)}, 30},
		{[]api.Event{long(200), fading(100, 200), fading(100, 200), fading(100, 100)}, 400},
		{slices.Repeat([]api.Event{{Reel: "a", Out: 2159999}}, 200), 200 * 2159999},
	} {
		if n, err := cuts.Length(listOf(x.events...)); n != x.want || err != nil {
			t.Error(n, err, "and not", x.want)
		}
		may(t, listOf(x.events...))
	}
	// All of a day of the rate with most frames, 200 times.
	l := api.CutList{Rate: 6, Events: slices.Repeat([]api.Event{{Reel: "a", Out: 5183999}}, 200)}
	if n, err := cuts.Length(l); n != 1036799800 || err != nil {
		t.Error(n, err)
	}
}
