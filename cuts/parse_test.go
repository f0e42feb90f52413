package cuts_test

import (
	"fmt"
	"strings"
	"testing"

	"dailies/api"
	"dailies/cuts"
	"dailies/timecode"
)

// head is a line `list`, which has 12 bytes with its line feed.
const head = "list 25 \"t\"\n"

// Times of rate 25.
const (
	t0 = "00:00:00:00"
	t1 = "00:00:01:00"
	t2 = "00:00:02:00"
	t9 = "00:00:09:24"
)

// shot is an event's line of 50 frames of the reel a.
const shot = "cut a " + t0 + " " + t2 + "\n"

func TestTheChaptersExamples(t *testing.T) {
	const first = "list 25 \"one\"\ncut a 00:00:01:00 00:00:02:00"
	l := parsed(t, first)
	if !sameList(l, api.CutList{Title: "one", Rate: api.Rate25, Events: []api.Event{{Reel: "a", In: 25, Out: 50}}}) {
		t.Error(l)
	}
	if n, err := cuts.Length(l); n != 25 || err != nil {
		t.Error(n, err)
	}
	if s, err := cuts.Print(l); s != first+"\n" || err != nil {
		t.Error(s, err)
	}
	l = parsed(t, first+"\nfade 5 b-2 00:00:00:00 00:00:00:10 \"x\" # so")
	if len(l.Events) != 2 || l.Events[1] != (api.Event{Reel: "b-2", Out: 10, Fade: 5, Note: "x"}) {
		t.Error(l)
	}
	if n, err := cuts.Length(l); n != 30 || err != nil {
		t.Error(n, err)
	}
	refused(t, first+"\nfade 26 b-2 00:00:00:00 00:00:00:10 \"x\" # so", api.ErrCutsOrder, len(first)+1)
	refused(t, "", api.ErrCutsWord, 0)
	refused(t, "list 25", api.ErrCutsWord, 7)
	refused(t, "list 25 \"a\" b", api.ErrCutsWord, 12)
	refused(t, "list 25 \"a", api.ErrCutsWord, 8)
	refused(t, "cut", api.ErrCutsWord, 0)
	notMay(t, api.CutList{Rate: 8}, -1, api.ErrTimecodeRate)
}

func TestC2LongTexts(t *testing.T) {
	ahead := head + shot + "# "
	for _, fill := range []string{" ", "\t", "\n", "#", "é", "😀"} {
		padded := func(n int) string {
			left := n - len(ahead)
			return ahead + strings.Repeat("-", left%len(fill)) + strings.Repeat(fill, left/len(fill))
		}
		if l := parsed(t, padded(20000)); len(l.Events) != 1 {
			t.Error(len(l.Events))
		}
		refused(t, padded(20001), api.ErrCutsLong, 0)
		refused(t, padded(20002), api.ErrCutsLong, 0)
	}
	refused(t, strings.Repeat("\n", 20000), api.ErrCutsWord, 20000)
	refused(t, strings.Repeat("\n", 20001), api.ErrCutsLong, 0)
	refused(t, strings.Repeat("\xff", 20001), api.ErrCutsLong, 0)
	refused(t, strings.Repeat("\xff", 20000), api.ErrCutsUTF8, 0)
	refused(t, strings.Repeat("é", 10000)+"x", api.ErrCutsLong, 0)
	refused(t, strings.Repeat("é", 10000), api.ErrCutsWord, 0)
	refused(t, strings.Repeat("x", 1<<20), api.ErrCutsLong, 0)
	refused(t, "cut x"+strings.Repeat(" ", 19994)+"\xff", api.ErrCutsUTF8, 19999)
	refused(t, "cut x"+strings.Repeat(" ", 19995)+"\xff", api.ErrCutsLong, 0)
}

func TestC2BytesThatBelongToNoRune(t *testing.T) {
	whole := "# r\n list 25 \"t\\\"e\" # q\ncut a " + t0 + " " + t1 + " \"n\"#w\n\n" + "fade 3 b " + t0 + " " + t2
	parsed(t, whole)
	for _, bad := range []string{"\xff", "\x80", "\xc3", "\xe2\x82", "\xf0\x9f\x98", "\xed\xa0\x80", "\xf4\x90\x80\x80", "\xc0\x80", "\xfe", "\xe0\x80\xaf"} {
		for at := range len(whole) + 1 {
			refused(t, whole[:at]+bad+whole[at:], api.ErrCutsUTF8, at)
			refused(t, whole[:at]+bad+"\xff"+whole[at:], api.ErrCutsUTF8, at)
		}
	}
	// It is told ahead of all that is wrong with lines, and behind runes that are right.
	refused(t, "no list at all\n\"\\ é\xc3", api.ErrCutsUTF8, len("no list at all\n\"\\ é"))
	refused(t, "\ufffd😀\ufffd\xbd", api.ErrCutsUTF8, 10)
	refused(t, "# \ufffd\n\xef\xbf", api.ErrCutsUTF8, 6)
	refused(t, head+"cut a "+t1+" "+t0+"\n\xa9", api.ErrCutsUTF8, 12+30)
	// The rune that stands for a wrong byte is none itself.
	if l := parsed(t, "list 24 \"\ufffd\"#\ufffd"); l.Title != "\ufffd" {
		t.Error(l)
	}
	refused(t, "\ufffd", api.ErrCutsWord, 0)
}

func TestC2NoLineSaysSomething(t *testing.T) {
	for _, s := range []string{"", " ", "\t", "\n", "\n\n\n", "#", "#list 25 \"a\"", " \t # list", "# a\n\n#b", "# a\n\n#b\n", " \n\t\n", "###", "#\n#\n "} {
		refused(t, s, api.ErrCutsWord, len(s))
	}
}

// Words are what stands between blanks; nothing else keeps them apart.
func TestC2Blanks(t *testing.T) {
	want := parsed(t, head+shot)
	for _, s := range []string{
		"list\t25\t\"t\"\ncut\ta\t" + t0 + "\t" + t2,
		" \t list \t 25 \t \"t\" \t \n\t\tcut  a\t " + t0 + " \t" + t2 + "  \t",
		"list 25\"t\"\n" + shot,
	} {
		if s == "list 25\"t\"\n"+shot {
			refused(t, s, api.ErrCutsWord, 5) // a `"` within a word is a part of it
		} else if l := parsed(t, s); !sameList(l, want) {
			t.Error(l)
		}
	}
	for _, r := range []string{"\r", "\v", "\f", "\x00", "\u0085", "\u00a0", "\u2003", "\u2028", "\u3000", "\ufeff", ","} {
		refused(t, "list"+r+"25 \"t\"", api.ErrCutsWord, 0)
		refused(t, r+"list 25 \"t\"", api.ErrCutsWord, 0)
		refused(t, "list 25 \"t\""+r, api.ErrCutsWord, 11)
		refused(t, "list 25 \"t\" "+r, api.ErrCutsWord, 12)
		refused(t, head+"cut"+r+"a "+t0+" "+t1, api.ErrCutsWord, 12)
		refused(t, head+"cut a "+t0+r+" "+t1, api.ErrCutsTime, 18)
		refused(t, head+"cut a "+t0+" "+t1+r, api.ErrCutsTime, 30)
		refused(t, head+"cut a"+r+" "+t0+" "+t1, api.ErrCutsWord, 16)
		if l := parsed(t, "list 25 \""+r+"\""); l.Title != r {
			t.Errorf("%q is %q", r, l.Title)
		}
	}
	// A line feed is no blank.
	refused(t, "list\n25 \"t\"", api.ErrCutsWord, 4)
	refused(t, "list 25\n\"t\"", api.ErrCutsWord, 7)
	refused(t, head+"cut a "+t0+"\n"+t1, api.ErrCutsWord, 12+6+11)
}

func TestC2Remarks(t *testing.T) {
	want := parsed(t, head+shot)
	for _, s := range []string{
		"#\n#a\n" + head + "#cut b\n" + shot + "# end",
		"list 25 \"t\"#\ncut a " + t0 + " " + t2 + " #\n",
		"list 25 \"t\" # \"\ncut a " + t0 + " " + t2 + "\t#\"x\" \\ # y\n",
		"list 25 \"t\"# list\n# \"\n\t#\\\ncut a " + t0 + " " + t2 + " # \"note\"",
		"# é 😀 \r \x00\n" + head + shot,
	} {
		if l := parsed(t, s); !sameList(l, want) {
			t.Error(s, l)
		}
	}
	// Within a word and within a text a `#` is a sign like any other.
	refused(t, "list# 25 \"t\"", api.ErrCutsWord, 0)
	refused(t, "list 25# \"t\"", api.ErrCutsWord, 5)
	refused(t, head+"cut a# "+t0+" "+t1, api.ErrCutsWord, 12+4)
	refused(t, head+"cut a#b "+t0+" "+t1, api.ErrCutsWord, 12+4)
	refused(t, head+"cut a "+t0+"# "+t1, api.ErrCutsTime, 12+6)
	refused(t, head+"cut a "+t0+" "+t1+"#", api.ErrCutsTime, 12+18)
	refused(t, head+"fade 5# a "+t0+" "+t1, api.ErrCutsWord, 12+5)
	if l := parsed(t, "list 25 \"#t # u\"\ncut a "+t0+" "+t2+" \"#\"#"); l.Title != "#t # u" || l.Events[0].Note != "#" {
		t.Error(l)
	}
}

// Behind a text's end a new word may begin at once.
func TestC2WordsRightBehindAText(t *testing.T) {
	refused(t, "list 25 \"a\"b", api.ErrCutsWord, 11)
	refused(t, "list 25 \"a\"\"b\"", api.ErrCutsWord, 11)
	refused(t, "list 25 \"\"\"", api.ErrCutsWord, 10)
	refused(t, "list 25 \"\"\"\"", api.ErrCutsWord, 10)
	refused(t, "list 25 \"a\"\\", api.ErrCutsWord, 11)
	refused(t, "list\"a\" 25", api.ErrCutsWord, 0)
	refused(t, "\"a\"list 25", api.ErrCutsWord, 0)
	refused(t, head+"cut a "+t0+" "+t1+" \"n\"m", api.ErrCutsWord, 12+30+3)
	refused(t, head+"cut a "+t0+" "+t1+" \"n\"\"m\"", api.ErrCutsWord, 12+30+3)
	refused(t, head+"cut a "+t0+" "+t1+"\"n\"", api.ErrCutsTime, 12+18)
	if l := parsed(t, "list 25 \"a\"#b"); l.Title != "a" {
		t.Error(l)
	}
}

func TestC2TextsAndTheirSigns(t *testing.T) {
	for _, x := range [][2]string{
		{``, ``}, {`a`, `a`}, {` `, ` `}, {"\t", "\t"}, {`\"`, `"`}, {`\\`, `\`}, {`\n`, "\n"}, {`n`, `n`}, {`\\n`, `\n`}, {`\\\n`, "\\\n"}, {`\\\"`, `\"`}, {`\"\"`, `""`}, {`a\"b\\c\nd`, "a\"b\\c\nd"},
		{`# b`, `# b`}, {`\n\n`, "\n\n"}, {`\\\\`, `\\`}, {`é\n日😀`, "é\n日😀"}, {"\r\x00\x7f\ufffd", "\r\x00\x7f\ufffd"}, {`'`, `'`}, {`cut a b`, `cut a b`}, {` a  b `, ` a  b `},
	} {
		l := parsed(t, "list 25 \""+x[0]+"\"\ncut a "+t0+" "+t2+" \""+x[0]+"\"\n")
		if l.Title != x[1] || l.Events[0].Note != x[1] {
			t.Errorf("%q stands for %q and %q", x[0], l.Title, l.Events[0].Note)
		}
	}
	// A `\` ahead of anything else may not be, wherever it stands in the text.
	for r := rune(0); r < 300; r++ {
		if r == '"' || r == '\\' || r == 'n' || r == '\n' {
			continue
		}
		for _, s := range []string{"\\" + string(r), "a\\" + string(r) + "b", "\\n\\" + string(r), "\\\\\\" + string(r), "\\" + string(r) + "\\n"} {
			refused(t, "list 25 \""+s+"\"", api.ErrCutsWord, 8)
			refused(t, "list 25 \""+s+"\" x", api.ErrCutsWord, 8)
			refused(t, head+"cut a "+t0+" "+t2+"  \""+s+"\"", api.ErrCutsWord, 12+31)
		}
	}
	refused(t, "list 25 \"\\😀\"", api.ErrCutsWord, 8)
	refused(t, "list 25 \"\\\ufffd\"", api.ErrCutsWord, 8)
}

func TestC2TextsWithoutAnEnd(t *testing.T) {
	for _, s := range []string{`"`, `"a`, `"a b # c`, `"\`, `"\"`, `"a\"`, `"a\\\"`, `"\n`, `"a\`, `"é`, `"a\" b`} {
		for _, end := range []string{"", "\n", "\n\"", "\n\"\n", "\n" + shot} {
			refused(t, "list 25 "+s+end, api.ErrCutsWord, 8)
			refused(t, head+"cut a "+t0+" "+t2+" "+s+end, api.ErrCutsWord, 12+30)
			refused(t, head+"cut a "+s+end, api.ErrCutsWord, 12+6)
			refused(t, s+end, api.ErrCutsWord, 0)
			refused(t, head+shot+s+end, api.ErrCutsWord, len(head+shot))
		}
	}
	// A text ends within its line: what looks like its end in the next one is not.
	refused(t, "list 25 \"a\nb\"", api.ErrCutsWord, 8)
	refused(t, "list 25 \"a\\\nb\"", api.ErrCutsWord, 8)
	// All that stands ahead of it is told ahead of it.
	refused(t, "list 26 \"a", api.ErrCutsWord, 5)
	refused(t, "lost 25 \"a", api.ErrCutsWord, 0)
	refused(t, head+"cut a "+t0+" "+t0+":0 \"\\x", api.ErrCutsTime, 12+18)
	refused(t, head+"cut a "+t1+" "+t0+" \"\\x", api.ErrCutsWord, 12+30)
}

func TestC2LongTextsWithin(t *testing.T) {
	for _, x := range []struct {
		s   string
		far bool // it stands for more than 100 bytes
	}{
		{strings.Repeat("x", 100), false}, {strings.Repeat("x", 101), true}, {strings.Repeat(`\"`, 100), false}, {strings.Repeat(`\\`, 100), false}, {strings.Repeat(`\n`, 100), false},
		{strings.Repeat(`\"`, 101), true}, {strings.Repeat(`\\`, 101), true}, {strings.Repeat(`\n`, 101), true}, {strings.Repeat("é", 50), false}, {strings.Repeat("é", 50) + "x", true}, {strings.Repeat("é", 51), true},
		{strings.Repeat("日", 33) + `\n`, false}, {strings.Repeat("日", 33) + `\nx`, true}, {strings.Repeat("日", 34), true}, {strings.Repeat("x", 5000), true}, {strings.Repeat(" ", 100), false}, {strings.Repeat(" ", 101), true},
	} {
		list, event := "list 25   \""+x.s+"\"", head+"cut a "+t0+" "+t2+" \t\""+x.s+"\""
		if !x.far {
			parsed(t, list)
			parsed(t, event)
			continue
		}
		refused(t, list, api.ErrCutsLong, 10)
		refused(t, list+" y", api.ErrCutsLong, 10)
		refused(t, event, api.ErrCutsLong, 12+31)
		refused(t, event+"\"\"", api.ErrCutsLong, 12+31)
		// It must be a text that may stand there, with an end and right signs.
		refused(t, list[:len(list)-1], api.ErrCutsWord, 10)
		refused(t, list[:len(list)-1]+"\\x\"", api.ErrCutsWord, 10)
		refused(t, "list \""+x.s+"\"", api.ErrCutsWord, 5)
		refused(t, "list 25 \"\" \""+x.s+"\"", api.ErrCutsWord, 11)
		refused(t, head+"cut \""+x.s+"\"", api.ErrCutsWord, 12+4)
		refused(t, head+"cut a \""+x.s+"\"", api.ErrCutsWord, 12+6)
		refused(t, head+"cut a "+t0+" "+t2+" \"\" \""+x.s+"\"", api.ErrCutsWord, 12+33)
	}
	refused(t, "list 25 "+strings.Repeat("x", 200), api.ErrCutsWord, 8)
	// It is told ahead of what is told behind all words.
	refused(t, head+"cut a "+t2+" "+t0+" \""+strings.Repeat("x", 101)+"\"", api.ErrCutsLong, 12+30)
	refused(t, head+"fade 5 a "+t0+" "+t2+" \""+strings.Repeat("x", 101)+"\"", api.ErrCutsLong, 12+33)
}

func TestC2Rates(t *testing.T) {
	for _, r := range allRates() {
		if l := parsed(t, "list "+rateWord(r)+" \"\""); l.Rate != r || l.Title != "" || len(l.Events) != 0 {
			t.Error(r, l)
		}
		// Times are read at the list's own rate.
		last, past := named(r, perDay(r)-1), "00:00:00"+named(r, 0)[8:9]+fmt.Sprintf("%02d", map[api.Rate]int{1: 24, 2: 25, 3: 30, 4: 30, 5: 50, 6: 60, 7: 60}[r])
		ahead := "list " + rateWord(r) + " \"\"\ncut a " + named(r, 0) + " "
		if l := parsed(t, ahead+last); l.Events[0].Out != perDay(r)-1 {
			t.Error(r, l)
		}
		refused(t, ahead+past, api.ErrCutsTime, len(ahead))
		for _, other := range allRates() {
			name := named(other, perDay(other)/2+perDay(other)/3)
			if n, err := timecode.Number(r, name); err != nil {
				refused(t, ahead+name, api.ErrCutsTime, len(ahead))
			} else if l := parsed(t, ahead+name); l.Events[0].Out != n {
				t.Error(r, other, l)
			}
		}
	}
	for _, s := range []string{"0", "1", "2", "7", "2 5", "24d", "25d", "50d", "30D", "60D", "30dd", "30d0", "d", "d30", "024", "24.", "24.0", "+24", "-24", "23", "26", "29", "31", "48", "59", "61", "60d#", "120", "23.98", "29.97", "30;", "Rate24", "25\"t\"", "２５", "240", "5", "6"} {
		refused(t, "list "+s+" \"t\"", api.ErrCutsWord, 5)
	}
}

func TestC2Fades(t *testing.T) {
	ahead := head + "cut a " + t0 + " " + t9 + "\n"
	for n := 1; n <= 100; n++ {
		if l := parsed(t, ahead+fmt.Sprint("fade ", n, " b ")+t0+" "+t9); l.Events[1].Fade != n {
			t.Error(n, l)
		}
	}
	for _, s := range []string{"0", "00", "05", "01", "001", "0100", "101", "102", "110", "199", "200", "256", "257", "1000", "1001", "10000", "999999999999999999999999", "18446744073709551617", "4294967297", "-1", "+1", "-0", "1.", "1.0", "1e1", "0x1", "a", "5a", "a5", "1_0", "٥", "１", "5,", "½", "\"5\"", "100d"} {
		refused(t, ahead+"fade "+s+" b "+t0+" "+t9, api.ErrCutsWord, len(ahead)+5)
	}
	// `cut` has no N, and `fade` must have one.
	refused(t, ahead+"cut 5 b "+t0+" "+t9, api.ErrCutsTime, len(ahead)+6)
	refused(t, ahead+"fade b "+t0+" "+t9, api.ErrCutsWord, len(ahead)+5)
}

// parts are the words of each kind of line.
func parts() map[string][]string {
	return map[string][]string{
		"":                             {"list", "25", "\"t\""},
		head:                           {"cut", "a", t0, t2},
		head + " ":                     {"cut", "a", t0, t2, "\"n\""},
		head + shot:                    {"fade", "5", "a", t0, t2},
		"# x\n" + head + shot + "\n\t": {"fade", "5", "a", t0, t2, "\"n\""},
	}
}

// Each word of each line missing: told where the line's words end.
func TestC2AWordIsMissing(t *testing.T) {
	for ahead, words := range parts() {
		for n := 1; n < len(words); n++ {
			if words[n] == "\"n\"" {
				continue // a note may be missing
			}
			s := ahead + strings.Join(words[:n], " ")
			for _, x := range []struct {
				behind string
				more   int // bytes from the last word on
			}{
				{"", 0}, {" ", 1}, {" \t ", 3}, {"\n", 0}, {"  \n", 2}, {" # a", 1}, {" #", 1}, {"\t  #\n", 3}, {"\n#", 0}, {"\n" + shot, 0}, {" \n" + shot, 1}, {" # b\n" + shot, 1}, {"\n\n\n", 0},
			} {
				refused(t, s+x.behind, api.ErrCutsWord, len(s)+x.more)
			}
		}
	}
}

// A word out of the midst is missing: the one behind it stands in its place.
func TestC2AWordIsLeftOut(t *testing.T) {
	for _, x := range []struct {
		s  string
		e  api.Errno
		at int
	}{
		{"25 \"t\"", api.ErrCutsWord, 0}, {"list \"t\"", api.ErrCutsWord, 5}, {"list 25", api.ErrCutsWord, 7},
		{head + "a " + t0 + " " + t1, api.ErrCutsWord, 12}, {head + "cut " + t0 + " " + t1, api.ErrCutsWord, 12 + 4}, {head + "cut a " + t1, api.ErrCutsWord, 12 + 17},
		{head + "cut a " + t0 + " \"n\"", api.ErrCutsWord, 12 + 18},
		{head + shot + "5 a " + t0 + " " + t1, api.ErrCutsWord, 12 + 30}, {head + shot + "fade 5 " + t0 + " " + t1, api.ErrCutsWord, 12 + 30 + 7}, {head + shot + "fade 5 a " + t1, api.ErrCutsWord, 12 + 30 + 20},
	} {
		refused(t, x.s, x.e, x.at)
	}
}

// Each word of each line wrong, or a text, or a word where a text must stand.
func TestC2AWordIsWrong(t *testing.T) {
	for ahead, words := range parts() {
		asSaid(t, ahead+strings.Join(words, " "))
		for n, w := range words {
			at := len(ahead + strings.Join(words[:n], " "))
			if n > 0 {
				at++
			}
			e := api.ErrCutsWord
			if w == t0 || w == t2 {
				e = api.ErrCutsTime
			}
			put := func(x string) string {
				with := append([]string{}, words...)
				with[n] = x
				return ahead + strings.Join(with, " ")
			}
			for _, x := range []string{"X", "'" + w, strings.ToUpper(w) + "X", "é", "(", "\\", "=", "00:00:00;00", "0:00:00:00"} {
				if x[0] != '"' {
					refused(t, put(x), e, at)
				}
			}
			if w[0] == '"' {
				refused(t, put(w+"x"), api.ErrCutsWord, at+len(w))
				refused(t, put("n"), api.ErrCutsWord, at)
				continue
			}
			for _, x := range []string{"\"" + w + "\"", "\"\"", "\"a\"", "\"", "\"\\x\"", "\"" + w} {
				refused(t, put(x), api.ErrCutsWord, at)
			}
		}
	}
}

func TestC2OneWordTooMany(t *testing.T) {
	for ahead, words := range parts() {
		s := ahead + strings.Join(words, " ")
		for _, x := range []string{"x", "a", t0, "5", "\\", "cut", "list"} {
			refused(t, s+" "+x, api.ErrCutsWord, len(s)+1)
			refused(t, s+" \t"+x+" y # z\n"+shot, api.ErrCutsWord, len(s)+2)
		}
		if last := words[len(words)-1]; last[0] == '"' {
			for _, x := range []string{"\"\"", "\"x\"", "\"", "\"\\x\""} {
				refused(t, s+" "+x, api.ErrCutsWord, len(s)+1)
				refused(t, s+x, api.ErrCutsWord, len(s))
			}
		} else {
			refused(t, s+" \"n\" m", api.ErrCutsWord, len(s)+5)
			refused(t, s+" \"n\" \"m\"", api.ErrCutsWord, len(s)+5)
		}
	}
}

func TestC2TheFirstWordOfALine(t *testing.T) {
	for _, s := range []string{"cut", "fade", "List", "LIST", "lis", "list:", "lists", "25", "x", "é", "-", "\\", "\"list\"", "\""} {
		refused(t, s+" 25 \"t\"", api.ErrCutsWord, 0)
		refused(t, "\n # x\n  "+s+" 25 \"t\"", api.ErrCutsWord, 8)
	}
	for _, s := range []string{"list", "Cut", "CUT", "Fade", "cu", "cuts", "fad", "fades", "fade5", "cut,", "x", "é", "\"cut\"", "\"fade\"", "\"", "\\", t0} {
		refused(t, head+s+" a "+t0+" "+t1, api.ErrCutsWord, 12)
		refused(t, head+shot+"\n\t"+s+" 5 a "+t0+" "+t1, api.ErrCutsWord, len(head+shot)+2)
	}
	refused(t, head+head, api.ErrCutsWord, 12)
}

func TestC2Names(t *testing.T) {
	for _, s := range []string{"a", "0", "_", "-", "abcdefghijklmnop", "----------------", "cut", "fade", "list", "00-00"} {
		if l := parsed(t, head+"cut "+s+" "+t0+" "+t1+"\nfade 1 "+s+" "+t0+" "+t1); l.Events[0].Reel != s || l.Events[1].Reel != s {
			t.Error(l)
		}
	}
	bad := []string{"A", "abcdefghijklmnopq", "a.b", "a/b", "a:b", "é", "a\"b", "a\"", "a\\", "a#", "\ufffd", "\"a\"", "\"\""}
	for r := rune(0); r < 128; r++ {
		if !strings.ContainsRune("abcdefghijklmnopqrstuvwxyz0123456789_- \t\n", r) {
			bad = append(bad, "a"+string(r)+"z")
		}
	}
	for _, s := range bad {
		refused(t, head+"cut "+s+" "+t0+" "+t1, api.ErrCutsWord, 12+4)
		refused(t, head+shot+"fade 7 "+s+" "+t0+" "+t1, api.ErrCutsWord, 12+30+7)
	}
}

func TestC2Times(t *testing.T) {
	for _, s := range []string{"0", "00:00:00", "00:00:00:0", "00:00:00:000", "00:00:00;00", "00:00:00:25", "00:00:60:00", "00:60:00:00", "24:00:00:00", "00-00-00-00", "0a:00:00:00", "00:00:00:00x", "x", "é", "00:00:00.00", "-1", "\\", "00:00:00:00#", "00:00:00:00\"x\"", "\r"} {
		refused(t, head+"cut a "+s+" "+t1, api.ErrCutsTime, 12+6)
		refused(t, head+"cut a "+s, api.ErrCutsTime, 12+6)
		refused(t, head+"cut a "+t0+" "+s, api.ErrCutsTime, 12+18)
		refused(t, head+"cut a "+t0+"  "+s+" \"n\"", api.ErrCutsTime, 12+19)
		refused(t, head+shot+"fade 5 b "+s+" "+t1, api.ErrCutsTime, 12+30+9)
		refused(t, head+shot+"fade 5 b "+t0+" "+s+" x", api.ErrCutsTime, 12+30+21)
	}
	for _, s := range []string{"\"" + t0 + "\"", "\"\"", "\"x\"", "\"", "\"\\0\""} {
		refused(t, head+"cut a "+s+" "+t1, api.ErrCutsWord, 12+6)
		refused(t, head+"cut a "+t0+" "+s, api.ErrCutsWord, 12+18)
	}
	// A name that is left out is no time.
	refused(t, "list 30d \"\"\ncut a 00:00:00;00 00:01:00;01", api.ErrCutsTime, 12+18)
	refused(t, "list 60d \"\"\ncut a 00:01:00;03 00:01:00;05", api.ErrCutsTime, 12+6)
	if l := parsed(t, "list 60d \"\"\ncut a 00:01:00;04 00:01:00;05"); l.Events[0].In != 3600 || l.Events[0].Out != 3601 {
		t.Error(l)
	}
}

// Behind all words: In below Out, then the Fade.
func TestC2BehindAllWords(t *testing.T) {
	ahead := head + shot
	at := len(ahead)
	for _, x := range []struct {
		s  string
		e  api.Errno
		at int
	}{
		{"cut b " + t1 + " " + t1, api.ErrCutsTime, at + 18}, {"cut b " + t1 + "   " + t0 + " \"n\" # x", api.ErrCutsTime, at + 20}, {"  fade 5 b " + t0 + " " + t0, api.ErrCutsTime, at + 2 + 21},
		{"fade 51 b " + t0 + " " + t9, api.ErrCutsOrder, at}, {" \tfade 51 b " + t0 + " " + t9 + " \"n\"", api.ErrCutsOrder, at + 2}, {"fade 26 b " + t0 + " " + t1, api.ErrCutsOrder, at}, {"fade 100 b " + t1 + " " + t2 + " #", api.ErrCutsOrder, at},
		{"fade 99 b " + t2 + " " + t2, api.ErrCutsTime, at + 22}, {"fade 99 b " + t2 + " " + t1, api.ErrCutsTime, at + 22},
		{"cut b " + t1 + " " + t1 + " x", api.ErrCutsWord, at + 30}, {"fade 51 b " + t0 + " " + t9 + " x", api.ErrCutsWord, at + 34}, {"fade 51 b " + t0 + " " + t9 + " \"\"\"", api.ErrCutsWord, at + 36},
		{"fade 50 b " + t0 + " " + t2 + "\n fade 1 c " + t0 + " " + t1, api.ErrCutsOrder, at + 34 + 1}, {"fade 20 b " + t0 + " " + t1 + "\nfade 6 c " + t0 + " " + t1, api.ErrCutsOrder, at + 34},
	} {
		refused(t, ahead+x.s, x.e, x.at)
	}
	refused(t, head+"fade 1 b "+t0+" "+t9, api.ErrCutsOrder, 12)
	refused(t, head+"# a\n\n  fade 100 b "+t0+" "+t9, api.ErrCutsOrder, 12+7)
	for _, s := range []string{"fade 50 b " + t0 + " " + t2, "fade 25 b " + t0 + " " + t1, "fade 20 b " + t0 + " " + t1 + "\nfade 5 c " + t0 + " " + t1, "fade 25 b " + t0 + " " + t1 + "\ncut c " + t0 + " " + t1} {
		parsed(t, ahead+s)
	}
}

func TestC2ManyEvents(t *testing.T) {
	full := "list 25 \"\"\n" + strings.Repeat(shot, 200)
	for _, behind := range []string{"", "\n", "  ", "# cut", "\n\n\t# a\n"} {
		if l := parsed(t, full+behind); len(l.Events) != 200 {
			t.Error(len(l.Events))
		}
	}
	if l := parsed(t, full[:len(full)-1]); len(l.Events) != 200 {
		t.Error(len(l.Events))
	}
	// Whatever the words of the line are.
	for _, s := range []string{shot, "cut", "fade", "x", "list 25 \"\"", "\"", "\"a\"", "\\", "fade 101", "cut A", t0, "é"} {
		refused(t, full+s, api.ErrCutsMany, len(full))
		refused(t, full+"\n# x\n \t"+s+"\n", api.ErrCutsMany, len(full)+7)
		refused(t, full+s+"\n"+shot, api.ErrCutsMany, len(full))
	}
	// What is wrong in a line ahead is told ahead of it.
	most := "list 25 \"\"\n" + strings.Repeat(shot, 199)
	refused(t, most+"cut\n"+shot, api.ErrCutsWord, len(most)+3)
	refused(t, most+"x\n"+shot+shot, api.ErrCutsWord, len(most))
}

// Lines are told of one behind the other, words from the left.
func TestC2TheFirstOfSeveral(t *testing.T) {
	refused(t, "list 26 t\ncut A", api.ErrCutsWord, 5)
	refused(t, head+"cut a "+t1+" "+t0+"\ncut A", api.ErrCutsTime, 12+18)
	refused(t, head+"fade 5 a "+t0+" "+t1+"\n\"", api.ErrCutsOrder, 12)
	refused(t, head+"cut A x y z", api.ErrCutsWord, 12+4)
	refused(t, head+"cut a x A", api.ErrCutsTime, 12+6)
	refused(t, head+"cut a x \"", api.ErrCutsTime, 12+6)
	refused(t, head+"cut a "+t0+" \" x", api.ErrCutsWord, 12+18)
	refused(t, head+"fade 0 A x", api.ErrCutsWord, 12+5)
	refused(t, head+"fade 1 A x", api.ErrCutsWord, 12+7)
	refused(t, head+"fade 1 a x", api.ErrCutsTime, 12+9)
	refused(t, head+"x fade", api.ErrCutsWord, 12)
	refused(t, "list 25 \"t\" x\ncut a", api.ErrCutsWord, 12)
	refused(t, "x\n\xff", api.ErrCutsUTF8, 2)
}

// The last line may do without its line feed.
func TestC2TheLastLine(t *testing.T) {
	for _, s := range []string{"list 25 \"t\"", head + "cut a " + t0 + " " + t1, head + "cut a " + t0 + " " + t1 + " \"n\"", head + shot + "# x", head + shot + "  "} {
		if a, b := parsed(t, s), parsed(t, s+"\n"); !sameList(a, b) {
			t.Error(s, a, b)
		}
	}
	if l := parsed(t, head+"cut a "+t0+" "+t1+" \"\""); l.Events[0].Note != "" {
		t.Error(l)
	}
}
