package cuts_test

import (
	"errors"
	"fmt"
	"regexp"
	"slices"
	"strings"
	"testing"
	"unicode/utf8"

	"dailies/api"
	"dailies/cuts"
	"dailies/timecode"
)

// perDay is how many frames a day of each rate has, as chapter 18 writes it out.
func perDay(r api.Rate) int {
	return map[api.Rate]int{1: 2073600, 2: 2160000, 3: 2592000, 4: 2589408, 5: 4320000, 6: 5184000, 7: 5178816}[r]
}

// rateWord is a rate's word, as the chapter writes it out.
func rateWord(r api.Rate) string {
	return map[api.Rate]string{1: "24", 2: "25", 3: "30", 4: "30d", 5: "50", 6: "60", 7: "60d"}[r]
}

// allRates are all that are rates.
func allRates() []api.Rate { return []api.Rate{1, 2, 3, 4, 5, 6, 7} }

// badTitle is what C1 says of a title or a note; api.OK, if it may be.
func badTitle(s string) api.Errno {
	if len(s) > 100 {
		return api.ErrCutsLong
	}
	if !utf8.ValidString(s) {
		return api.ErrCutsUTF8
	}
	return api.OK
}

// badFade tells whether the Fade of an event may not be by C1's words.
func badFade(l api.CutList, i int) bool {
	e := l.Events[i]
	if e.Fade < 0 || e.Fade > 100 {
		return true
	}
	if e.Fade != 0 && i == 0 {
		return true
	}
	if e.Fade > e.Out-e.In {
		return true
	}
	return i > 0 && e.Fade > l.Events[i-1].Out-l.Events[i-1].In-l.Events[i-1].Fade
}

var nameForm = regexp.MustCompile(`^[a-z0-9_-]{1,16}\z`)

// says is what Check says of a list by C1's words: of which event, and which error; api.OK, if it may be.
func says(l api.CutList) (int, api.Errno) {
	if e := badTitle(l.Title); e != api.OK {
		return -1, e
	}
	if l.Rate < 1 || l.Rate > 7 {
		return -1, api.ErrTimecodeRate
	}
	if len(l.Events) > 200 {
		return -1, api.ErrCutsMany
	}
	for i, e := range l.Events {
		if !nameForm.MatchString(e.Reel) {
			return i, api.ErrCutsWord
		}
		if e.In < 0 || e.Out <= e.In || e.Out > perDay(l.Rate)-1 {
			return i, api.ErrCutsTime
		}
		if badFade(l, i) {
			return i, api.ErrCutsOrder
		}
		if bad := badTitle(e.Note); bad != api.OK {
			return i, bad
		}
	}
	return 0, api.OK
}

// written is what Print writes of a list that may be, by C3's words.
func written(l api.CutList) string {
	sign := strings.NewReplacer(`"`, `\"`, `\`, `\\`, "\n", `\n`)
	s := fmt.Sprintf("list %s \"%s\"\n", rateWord(l.Rate), sign.Replace(l.Title))
	for _, e := range l.Events {
		how := "cut"
		if e.Fade > 0 {
			how = fmt.Sprint("fade ", e.Fade)
		}
		s += fmt.Sprintf("%s %s %s %s", how, e.Reel, named(l.Rate, e.In), named(l.Rate, e.Out))
		if e.Note != "" {
			s += fmt.Sprintf(" \"%s\"", sign.Replace(e.Note))
		}
		s += "\n"
	}
	return s
}

// named is a frame's name.
func named(r api.Rate, n int) string {
	s, e := timecode.Name(r, n)
	if e != api.OK {
		panic(fmt.Sprint("no name of ", n, " at rate ", r))
	}
	return s
}

// token is a word of a line; raw is how it is written.
type token struct {
	at  int
	raw string
}

var (
	textForm  = regexp.MustCompile(`^"(?:[^"\\\n]|\\["\\n])*"`)
	anyText   = regexp.MustCompile(`^"(?:[^"\\\n]|\\[^\n])*"`)
	wordForm  = regexp.MustCompile(`^[^ \t\n]+`)
	fadeForm  = regexp.MustCompile(`^(?:[1-9][0-9]?|100)\z`)
	blankForm = regexp.MustCompile(`^[ \t]*`)
)

// tokens are a line's words, and where one that is missing is told, by patterns.
func tokens(line string, start int) ([]token, int) {
	var all []token
	at := 0
	for {
		at += len(blankForm.FindString(line[at:]))
		rest := line[at:]
		if rest == "" || rest[0] == '#' {
			return all, start + at
		}
		raw := wordForm.FindString(rest)
		if rest[0] == '"' {
			if raw = anyText.FindString(rest); raw == "" {
				raw = rest
			}
		}
		all = append(all, token{start + at, raw})
		at += len(raw)
	}
}

// isText tells whether a word is a text, be it right or wrong.
func (k token) isText() bool { return k.raw[0] == '"' }

// stands is what a text stands for, if it is a right one.
func (k token) stands() (string, bool) {
	if textForm.FindString(k.raw) != k.raw {
		return "", false
	}
	return strings.NewReplacer(`\\`, `\`, `\"`, `"`, `\n`, "\n").Replace(k.raw[1 : len(k.raw)-1]), true
}

// model reads a text by C2's words.
type model struct {
	list api.CutList
	at   int
	e    api.Errno
}

// wrong is an error at a place; it answers false.
func (m *model) wrong(at int, e api.Errno) bool {
	m.list, m.at, m.e = api.CutList{}, at, e
	return false
}

// reads is what Parse says of a text: the list, or a place and an error.
func reads(s string) (api.CutList, int, api.Errno) {
	var m model
	m.read(s)
	return m.list, m.at, m.e
}

func (m *model) read(s string) bool {
	if len(s) > 20000 {
		return m.wrong(0, api.ErrCutsLong)
	}
	for at := 0; at < len(s); {
		r, n := utf8.DecodeRuneInString(s[at:])
		if r == utf8.RuneError && n == 1 {
			return m.wrong(at, api.ErrCutsUTF8)
		}
		at += n
	}
	start := 0
	for _, line := range strings.Split(s, "\n") {
		if all, end := tokens(line, start); len(all) > 0 && !m.line(all, end) {
			return false
		}
		start += len(line) + 1
	}
	if m.list.Rate == 0 {
		return m.wrong(len(s), api.ErrCutsWord)
	}
	return true
}

func (m *model) line(all []token, end int) bool {
	if m.list.Rate == 0 {
		return m.listLine(all, end)
	}
	if len(m.list.Events) == 200 {
		return m.wrong(all[0].at, api.ErrCutsMany)
	}
	return m.eventLine(all, end)
}

func (m *model) listLine(all []token, end int) bool {
	title, rate := "", api.Rate(0)
	for i, k := range all {
		switch {
		case i == 0 && k.raw == "list":
		case i == 1 && slices.ContainsFunc(allRates(), func(r api.Rate) bool { return rateWord(r) == k.raw }):
			for _, r := range allRates() {
				if rateWord(r) == k.raw {
					rate = r
				}
			}
		case i == 2 && k.isText():
			var ok bool
			if title, ok = k.stands(); !ok {
				return m.wrong(k.at, api.ErrCutsWord)
			}
			if len(title) > 100 {
				return m.wrong(k.at, api.ErrCutsLong)
			}
		default:
			return m.wrong(k.at, api.ErrCutsWord)
		}
	}
	if len(all) < 3 {
		return m.wrong(end, api.ErrCutsWord)
	}
	m.list.Rate, m.list.Title = rate, title
	return true
}

func (m *model) eventLine(all []token, end int) bool {
	parts := []string{"cut", "name", "in", "out", "note"}
	if all[0].raw == "fade" {
		parts = []string{"fade", "n", "name", "in", "out", "note"}
	}
	var e api.Event
	out := 0
	for i, k := range all {
		if i == len(parts) {
			return m.wrong(k.at, api.ErrCutsWord)
		}
		if bad := m.part(&e, parts[i], k); bad != api.OK {
			return m.wrong(k.at, bad)
		}
		if parts[i] == "out" {
			out = k.at
		}
	}
	if len(all) < len(parts)-1 {
		return m.wrong(end, api.ErrCutsWord)
	}
	if e.In >= e.Out {
		return m.wrong(out, api.ErrCutsTime)
	}
	m.list.Events = append(m.list.Events, e)
	if badFade(m.list, len(m.list.Events)-1) {
		return m.wrong(all[0].at, api.ErrCutsOrder)
	}
	return true
}

// part is a word at its place in an event's line.
func (m *model) part(e *api.Event, part string, k token) api.Errno {
	if k.isText() != (part == "note") {
		return api.ErrCutsWord
	}
	switch part {
	case "cut":
		if k.raw != "cut" {
			return api.ErrCutsWord
		}
	case "n":
		if !fadeForm.MatchString(k.raw) {
			return api.ErrCutsWord
		}
		fmt.Sscan(k.raw, &e.Fade)
	case "name":
		if e.Reel = k.raw; !nameForm.MatchString(k.raw) {
			return api.ErrCutsWord
		}
	case "in", "out":
		n, err := timecode.Number(m.list.Rate, k.raw)
		if err != nil {
			return api.ErrCutsTime
		}
		if part == "in" {
			e.In = n
		} else {
			e.Out = n
		}
	case "note":
		var ok bool
		if e.Note, ok = k.stands(); !ok {
			return api.ErrCutsWord
		}
		if len(e.Note) > 100 {
			return api.ErrCutsLong
		}
	}
	return api.OK
}

// sameList tells whether two lists are the same; a list of nothing may be nil or empty.
func sameList(a, b api.CutList) bool {
	return a.Title == b.Title && a.Rate == b.Rate && slices.Equal(a.Events, b.Events)
}

// isZero tells whether a list is that of an error.
func isZero(l api.CutList) bool { return l.Title == "" && l.Rate == 0 && len(l.Events) == 0 }

// short is a text for a message.
func short(s string) string {
	if len(s) > 300 {
		return fmt.Sprintf("%q .. %q (%d bytes)", s[:150], s[len(s)-100:], len(s))
	}
	return fmt.Sprintf("%q", s)
}

// refused looks whether Parse refuses a text by this error at this place, and tells no list.
func refused(t *testing.T, s string, e api.Errno, at int) {
	t.Helper()
	l, err := cuts.Parse(s)
	f, ok := err.(*api.Fault)
	if !ok || f == nil || *f != (api.Fault{At: at, Err: e}) || !errors.Is(err, e) || !isZero(l) {
		t.Fatalf("Parse of %s is %v, %v, and not error %d at %d", short(s), l, err, e, at)
	}
}

// parsed looks whether Parse reads a text, and tells the list.
func parsed(t *testing.T, s string) api.CutList {
	t.Helper()
	l, err := cuts.Parse(s)
	if err != nil {
		t.Fatalf("Parse of %s: %v", short(s), err)
	}
	return l
}

// asSaid holds what Parse says of a text against the chapter's words; it tells whether the text was read.
func asSaid(t *testing.T, s string) bool {
	t.Helper()
	want, at, e := reads(s)
	if e != api.OK {
		refused(t, s, e, at)
		return false
	}
	if l := parsed(t, s); !sameList(l, want) {
		t.Fatalf("Parse of %s is %v, and not %v", short(s), l, want)
	}
	return true
}

// isOf looks whether an error is this number of this event.
func isOf(t *testing.T, what string, err error, event int, e api.Errno) {
	t.Helper()
	w, ok := err.(*cuts.EventError)
	if !ok || w == nil || *w != (cuts.EventError{Event: event, Err: e}) || !errors.Is(err, e) {
		t.Fatalf("%s: %v, and not error %d of event %d", what, err, e, event)
	}
}

// notMay looks whether Check, Print and Length refuse a list by this error of this event, and tell nothing else.
func notMay(t *testing.T, l api.CutList, event int, e api.Errno) {
	t.Helper()
	isOf(t, "Check", cuts.Check(l), event, e)
	s, err := cuts.Print(l)
	if isOf(t, "Print", err, event, e); s != "" {
		t.Fatalf("Print tells %s beside an error", short(s))
	}
	n, err := cuts.Length(l)
	if isOf(t, "Length", err, event, e); n != 0 {
		t.Fatal("Length tells", n, "beside an error")
	}
}

// may looks whether Check and Length let a list be; Print may find it too long.
func may(t *testing.T, l api.CutList) {
	t.Helper()
	if err := cuts.Check(l); err != nil {
		t.Fatal("Check:", err)
	}
	want := 0
	for i, e := range l.Events {
		want += e.Out - e.In
		if i+1 < len(l.Events) {
			want -= l.Events[i+1].Fade
		}
	}
	if n, err := cuts.Length(l); err != nil || n != want {
		t.Fatal("Length:", n, err, "and not", want)
	}
	s, err := cuts.Print(l)
	if text := written(l); len(text) > 20000 {
		if isOf(t, "Print", err, -1, api.ErrCutsLong); s != "" {
			t.Fatalf("Print tells %s beside an error", short(s))
		}
	} else if err != nil || s != text {
		t.Fatalf("Print is %s, %v, and not %s", short(s), err, short(text))
	} else if back := parsed(t, s); !sameList(back, l) {
		t.Fatalf("Parse of what Print tells is %v, and not %v", back, l)
	}
}

// holds holds what Check, Print and Length say of a list against the chapter's words; it tells whether the list may be.
func holds(t *testing.T, l api.CutList) bool {
	t.Helper()
	event, e := says(l)
	if e != api.OK {
		notMay(t, l, event, e)
		return false
	}
	may(t, l)
	return true
}

// chance tells numbers that look as if by chance, the same ones each time.
type chance uint64

func (c *chance) below(n int) int {
	*c = *c*6364136223846793005 + 1442695040888963407
	return int(uint64(*c)>>33) % n
}

// one is one of several.
func one[T any](c *chance, of ...T) T { return of[c.below(len(of))] }
