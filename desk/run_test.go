package desk_test

import (
	"fmt"
	"strings"
	"testing"

	"dailies/api"
	"dailies/desk"
)

// runs looks what a script is answered.
func runs(t *testing.T, script, text string, lines int) {
	t.Helper()
	if s, n, e := desk.Run(script); s != text || n != lines || e != api.OK {
		t.Fatalf("%.60q: %.200q, %d (%d), not %.200q, %d", script, s, n, e, text, lines)
	}
}

// tooLong looks whether a script is refused.
func tooLong(t *testing.T, script string) {
	t.Helper()
	if s, n, e := desk.Run(script); s != "" || n != 0 || e != api.ErrDeskLong {
		t.Fatalf("%.60q: %.60q, %d (%d)", script, s, n, e)
	}
}

// D3: how many lines a script has; what each answered, of an error its number, of an empty answer nothing.
func TestD3Lines(t *testing.T) {
	runs(t, "", "", 1)
	runs(t, "\n", "", 1)
	runs(t, "\n\n", "", 2)
	runs(t, " ", "", 1)
	runs(t, "#", "", 1)
	runs(t, "#\n", "", 1)
	runs(t, "#\n ", "", 2)
	runs(t, "names", "frames; records; media; lists\n", 1)
	runs(t, "names\n", "frames; records; media; lists\n", 1)
	runs(t, "\nnames\n\n", "frames; records; media; lists\n", 3)
	runs(t, "names\r\n", "error 221\n", 1)
	runs(t, "nothing", "error 221\n", 1)
	runs(t, strings.Repeat("x", 201)+"\n"+strings.Repeat("x", 200)+"\n"+strings.Repeat(" ", 201), "error 223\nerror 221\nerror 223\n", 3)
	runs(t, "flat a 2 2 10 0 5\n# so\n\nshow a 0 0 0 2 2\nflat b 2 2 10 0 1024\nshow b 0 0 0 1 1\n\nflat a 1 1 10 0 6\nshow a 0 0 0 1 1\nmedium m\nmedium m", "frame 2 2 10 0\n5 5 / 5 5\nerror 64\nerror 222\nframe 1 1 10 0\n6\nok\nerror 222\n", 11)
	runs(t, "number 4 00:01:00;00\nlist l x\nprint l\nbuild o l\nlist k list 25 \"t\"\nlist k cut a 00:00:00:00 00:00:00:01\nbuild o k\nsize o", "fault 183 at 9\nok\nfault 193 at 0\nfault 193 at 0\nok\nok\nrefused 201\nerror 222\n", 8)
	// A title may have a line feed: it is told as it is.
	runs(t, "list l list 25 \"a\\nb\"\nbuild m l\nopen m", "ok\nframes 0 copied 0 mixed 0\nframes 0 finished 1 rate 2 start 0 title a\nb\n", 3)
}

// D3: at most 20000 bytes, and 300 lines.
func TestD3Long(t *testing.T) {
	for _, line := range []string{"", "#", "names", "nothing"} {
		answer := map[string]string{"names": "frames; records; media; lists\n", "nothing": "error 221\n"}[line]
		for _, n := range []int{299, 300, 301, 302, 1000} {
			script := strings.Repeat(line+"\n", n)
			if n > 300 {
				tooLong(t, script)
				tooLong(t, script+line)
				tooLong(t, script+"#")
				continue
			}
			runs(t, script, strings.Repeat(answer, n), n)
			if n+1 <= 300 {
				runs(t, script+"#", strings.Repeat(answer, n), n+1)
			} else {
				tooLong(t, script+"#")
				tooLong(t, script+"names")
				tooLong(t, script+"\n")
			}
		}
	}
	long := strings.Repeat("#"+strings.Repeat("x", 198)+"\n", 100)
	if len(long) != 20000 {
		t.Fatal(len(long))
	}
	runs(t, long, "", 100)
	runs(t, long[1:]+"#", "error 221\n", 101)
	tooLong(t, long+"#")
	tooLong(t, long+"\n")
	tooLong(t, " "+long)
	runs(t, strings.Repeat("x", 20000), "error 223\n", 1)
	tooLong(t, strings.Repeat("x", 20001))
	tooLong(t, strings.Repeat("\n", 20001))
	runs(t, strings.Repeat("names\n", 299)+strings.Repeat("x", 20000-6*299), strings.Repeat("frames; records; media; lists\n", 299)+"error 223\n", 300)
	tooLong(t, strings.Repeat("names\n", 299)+strings.Repeat("x", 20001-6*299))
}

// D3: each script has a desk of its own, on which nothing lies.
func TestD3OwnDesk(t *testing.T) {
	for range 3 {
		runs(t, "flat a 2 2 10 0 5\ncode x a\nmedium m\nlist l x\nconfig 15 15 0 0 0,0,0,0\nnames", "frame 2 2 10 0\nrecord 67 step 0 rung 0,0,0,0\nok\nok\nok\nframes a; records x; media m; lists l\n", 6)
		runs(t, "names\nflat a 2 2 10 0 5\ncode x a", "frames; records; media; lists\nframe 2 2 10 0\nrecord 67 step 0 rung 0,0,0,0\n", 3)
	}
	d := newDesk(t)
	play(t, d, "flat a 2 2 10 0 5")
	runs(t, "show a 0 0 0 1 1", "error 222\n", 1)
	play(t, d, "names => frames a; records; media; lists")
}

// D4: the ten examples of the whole, as one script.
func TestD4TheTenExamples(t *testing.T) {
	lines := []string{
		"config 16 16 0 0 0,0,0,0", "ok", "flat a 16 16 10 0 512", "frame 16 16 10 0", "ramp r 48 32 10 0 3 7", "frame 48 32 10 0",
		"code x a", "record 66 step 0 rung 0,0,0,0", "code y r", "record 1062 step 0 rung 0,0,0,0", "look b y", "frame 48 32 10 0 marks 000000",
		"apart r b", "0,0,0,0", "again z y", "record 1062 step 0 rung 0,0,0,0", "spoil y 100 ff00ff00", "ok", "look c y", "frame 48 32 10 0 marks 200000",
		"config 16 16 0 2 1,1,1,0", "ok", "code p r", "record 1209 step 0 rung 1,1,1,0", "spoil p 140 00000000", "ok", "look e p", "frame 48 32 10 0 marks 100000",
		"medium m", "ok", "record m 2 0 Day One", "ok", "write m r", "0 at 38 length 1209 step 0 rung 1,1,1,0", "write m a", "error 172",
		"finish m", "ok", "open m", "frames 1 finished 1 rate 2 start 0 title Day One", "config 16 16 0 0 0,0,0,0", "ok",
		"medium n", "ok", "record n 2 50 Day Two", "ok", "flat d 48 32 10 0 100", "frame 48 32 10 0",
		"write n r", "0 at 38 length 1062 step 0 rung 0,0,0,0", "write n d", "1 at 1116 length 300 step 0 rung 0,0,0,0", "write n r", "2 at 1432 length 1062 step 0 rung 0,0,0,0",
		"reads n 1 3", "reads 1116+32 1148+52 1308+36", "list l list 25 \"cut\"", "ok", "list l cut n 00:00:02:00 00:00:02:02", "ok", "list l cut n 00:00:02:01 00:00:02:03", "ok",
		"build o l", "frames 4 copied 4 mixed 0", "truncate n 2000", "ok", "open n", "frames 2 finished 0 rate 2 start 50 title Day Two",
		"render 3 r d:2 a:5", "1062:527d3982 300:8d81850a 0:00000000", "name 4 1800", "00:01:00;02", "number 4 00:10:00;00", "17982", "convert 1 2 48", "50",
	}
	script, text := "", ""
	for i := 0; i < len(lines); i += 2 {
		script += lines[i] + "\n"
		text += lines[i+1] + "\n"
	}
	for range 3 {
		runs(t, script, text, len(lines)/2)
		runs(t, strings.TrimSuffix(script, "\n"), text, len(lines)/2)
	}
	d := newDesk(t)
	for i := 0; i < len(lines); i += 2 {
		s, e := d.Do(lines[i])
		if e != api.OK {
			s = fmt.Sprint("error ", int(e))
		}
		if s != lines[i+1] {
			t.Fatalf("%q: %q, not %q", lines[i], s, lines[i+1])
		}
	}
}
