package desk_test

import (
	"fmt"
	"slices"
	"strings"
	"testing"

	"dailies/api"
	"dailies/desk"
)

// probed is what a stocked desk answers lines by which all that lies on it is seen; they change it.
func probed(t *testing.T, d *desk.Desk) []told {
	t.Helper()
	script := "names"
	for _, name := range strings.Fields("a b c d") {
		script += "\npack " + name + " planar"
	}
	for _, name := range strings.Fields("x y z hurt bare none") {
		script += "\nhead " + name + "\nlook seen " + name + "\npack seen planar\nagain same " + name
	}
	for _, name := range strings.Fields("m n e dead cut") {
		script += "\nsize " + name + "\nopen " + name + "\nwrite " + name + " a\nfinish " + name + "\nwrite " + name + " a\nreads " + name + " 0 0\nsize " + name
	}
	script += "\nprint l\nprint wrong\nprint far\nbuild o l\nsize o\nbuild p far\nrender 2 a b c d\nnames"
	var list []told
	for _, line := range strings.Split(script, "\n") {
		list = append(list, tell(d.Do(line)))
	}
	for _, name := range strings.Fields("m n e dead cut o") {
		b, e := d.Medium(name)
		list = append(list, tell(fmt.Sprintf("%x", b), e))
	}
	return list
}

// unchanged looks whether a stocked desk is as it was stocked; behind that it is not.
func unchanged(t *testing.T, d *desk.Desk) {
	t.Helper()
	got, want := probed(t, d), probed(t, stocked(t))
	for i := range want {
		if got[i] != want[i] {
			t.Fatalf("something has changed: %+v, not %+v", got[i], want[i])
		}
	}
}

// D1: a line has at most 200 bytes; that is asked first, of lines that do nothing and of lines that are none, too.
func TestD1LinesThatAreTooLong(t *testing.T) {
	d := stocked(t)
	for _, line := range []string{"", "#", "flat a 8 4 10 0 7", "  flat", "nothing", "x\n", "flat a 8 4 10 0 65", "show nobody 0 0 0 1 1", "head none"} {
		for _, more := range []string{" ", "#", "a", "\n", "\xff", "0"} {
			refuses(t, d, line+strings.Repeat(more, 201-len(line)), api.ErrDeskLong)
			refuses(t, d, line+strings.Repeat(more, 20000), api.ErrDeskLong)
		}
	}
	unchanged(t, d)
	says(t, d, "flat q 8 4 10 0 7"+strings.Repeat(" ", 200-17), "frame 8 4 10 0")
	says(t, d, strings.Repeat(" ", 200-17)+"flat r 8 4 10 0 7", "frame 8 4 10 0")
	says(t, d, strings.Repeat(" ", 200), "")
	says(t, d, "#"+strings.Repeat("x", 199), "")
	refuses(t, d, strings.Repeat("x", 200), api.ErrDeskLine)
	says(t, d, "list k # "+strings.Repeat("y", 191), "ok")
	refuses(t, d, "list k # "+strings.Repeat("y", 192), api.ErrDeskLong)
}

// D1: a line has no byte 10, also where it would do nothing, also behind a #.
func TestD1LineFeeds(t *testing.T) {
	d := stocked(t)
	for _, line := range []string{"\n", " \n", "\n ", "#\n", "# names\n", "\n#", "#" + strings.Repeat("x", 198) + "\n", "names\n", "\nnames", "flat q 8 4 10 0 7\n", "flat q 8 4\n10 0 7", "list l a\nb", "names\nnames"} {
		refuses(t, d, line, api.ErrDeskLine)
	}
	unchanged(t, d)
	d = stocked(t)
	for _, line := range []string{"\r", "names\r", "names\x00", "\tnames", "names\t", "names\v", "flat\tq 8 4 10 0 7", "flat q 8 4 10 0 7\r", "names\u00a0", "\ufeffnames"} {
		refuses(t, d, line, api.ErrDeskLine)
	}
	unchanged(t, d)
}

// D1: lines that do nothing.
func TestD1LinesThatDoNothing(t *testing.T) {
	d := stocked(t)
	for _, line := range []string{"", " ", "     ", "#", " #", "   #   ", "# flat q 8 4 10 0 7", "#flat q 8 4 10 0 7", "##", "#\xff", "#\t", "#\r", " #names", "# " + strings.Repeat("#", 198)} {
		says(t, d, line, "")
	}
	unchanged(t, d)
	d = stocked(t)
	// Elsewhere a # is a byte like others.
	for _, line := range []string{"names #", "names#", "x #", "flat q 8 4 10 0 7 # so", "flat #q 8 4 10 0 7"} {
		refuses(t, d, line, api.ErrDeskLine)
	}
	unchanged(t, d)
}

// Lines: several blanks count as one; those ahead and at the end do not count.
func TestBlanks(t *testing.T) {
	for _, line := range examples() {
		x := stocked(t)
		want := tell(x.Do(line))
		seen := probed(t, x)
		if want.errno != api.OK || want.text == "" {
			t.Fatal("the test is none:", line, want)
		}
		for _, other := range []string{" " + line, line + " ", "    " + line + "    ", strings.ReplaceAll(line, " ", "  "), strings.ReplaceAll(line, " ", "       "), "  " + strings.Replace(line, " ", "   ", 2)} {
			d := stocked(t)
			if got := tell(d.Do(other)); got != want {
				t.Fatalf("%q: %v, not %v", other, got, want)
			}
			if !slices.Equal(probed(t, d), seen) {
				t.Fatalf("%q is not %q", other, line)
			}
		}
	}
}

// D1: a command is none of the table's.
func TestD1CommandsThatAreNone(t *testing.T) {
	d := stocked(t)
	for _, line := range examples() {
		word, rest, _ := strings.Cut(line, " ")
		for _, other := range []string{strings.ToUpper(word), strings.ToUpper(word[:1]) + word[1:], word + "s", word[:len(word)-1], "x" + word, word + "-", word + "\x00", "." + word} {
			// Two commands with an s or without: names is one, and reads is.
			if _, there := rows()[other]; there {
				continue
			}
			refuses(t, d, other+" "+rest, api.ErrDeskLine)
			refuses(t, d, other, api.ErrDeskLine)
		}
	}
	for _, line := range []string{"x", "0", "-", "a b c", "flatramp", "help", "medium,m", "'names'", "\xff"} {
		refuses(t, d, line, api.ErrDeskLine)
	}
	unchanged(t, d)
}

// isOpen tells whether a command's last fields may be any number of fields.
func isOpen(command string) bool { return strings.HasSuffix(rows()[command], "..") }

// D1: too few fields of each command, and too many.
func TestD1HowManyFields(t *testing.T) {
	d := stocked(t)
	for _, line := range examples() {
		fields := strings.Fields(line)
		sorts := strings.Fields(rows()[fields[0]])
		for n := range sorts {
			refuses(t, d, strings.Join(fields[:n+1], " "), api.ErrDeskLine)
		}
		if isOpen(fields[0]) {
			continue
		}
		for _, more := range []string{" x", " 0", " #", " a", " m", " x y z", " 0,0,0,0", " " + fields[len(fields)-1]} {
			refuses(t, d, line+more, api.ErrDeskLine)
		}
	}
	unchanged(t, d)
}

// D1: as many rungs and frames as may stand in a line, and one more.
func TestD1HowManyRungsAndFrames(t *testing.T) {
	d := stocked(t)
	for n := 1; n <= 17; n++ {
		config := "config 16 16 0 0" + strings.Repeat(" 0,0,0,0", n)
		render := "render 2" + strings.Repeat(" a", n)
		frames := "render 2" + strings.Repeat(" c:5", n)
		if n > 16 {
			refuses(t, d, config, api.ErrDeskLine)
			refuses(t, d, render, api.ErrDeskLine)
			refuses(t, d, frames, api.ErrDeskLine)
			// Also where a name is not there.
			refuses(t, d, render+"x", api.ErrDeskLine)
			continue
		}
		if s := does(t, d, render); len(strings.Fields(s)) != n {
			t.Fatal(n, s)
		}
		says(t, d, frames, strings.TrimSpace(strings.Repeat(" 0:00000000", n)))
		refuses(t, d, render+"x", api.ErrDeskName)
	}
	unchanged(t, d)
	says(t, d, "config 16 16 0 0"+strings.Repeat(" 0,0,0,0", 16), "ok")
	if s := does(t, d, "code w a"); !strings.HasSuffix(s, "step 0 rung 0,0,0,0") {
		t.Fatal(s)
	}
}

// wrong are texts that are none of a sort of fields; of a sort that takes any text none.
func wrong(sort string) []string {
	names := []string{"A", "aA", "0a", "-a", "1", "a_b", "a.b", "a,b", "a/b", "\xe9", "\u00e9", "a\u00e9", "a#", "#a", strings.Repeat("a", 17), "a" + strings.Repeat("-", 16), strings.Repeat("a", 100)}
	numbers := []string{"00", "01", "007", "000000000", "0123456789", "1234567890", "1000000000", "9999999999", "00000000000000000000001", "+1", "-1", "-0", "1.0", "1e3", "0x1", "1_0", "1,", ",", "a", "x1", "\u0661", "1\x00"}
	switch strings.TrimRight(sort, "+!*.") {
	case "F", "R", "M", "L":
		return append(names, "a:1")
	case "N":
		return numbers
	case "S":
		return append(numbers, "65", "66", "100", "128", "256", "4096", "999999999")
	case "A":
		return append(numbers, "2", "3", "9", "10", "11", "true", "256")
	case "X":
		return []string{"0", "000", "abc", "0A", "A0", "FF", "0g", "g0", "0x00", "0-", "-0", "+1", "0\x00", "/0", "0:", "`0", "0@", "00\t", "zz", "\xff\xff"}
	case "K":
		return []string{"v211", "v21", "v2100", "V210", "Planar", "PLANAR", "plane", "planars", "raw", "0", "planar,v210"}
	case "G":
		list := []string{"0", "0,0", "0,0,0", "0,0,0,0,0", ",0,0,0", "0,,0,0", "0,0,0,", "0,0,0,0,", ",0,0,0,0", "0;0;0;0", "0.0.0.0", ",,,", ","}
		for _, n := range numbers {
			list = append(list, n+",0,0,0", "0,0,0,"+n, "0,"+n+",0,0")
		}
		return list
	case "J":
		list := []string{"a:", ":1", ":", "a::1", "a:1:1", "a:1:", ":a:1", "a;1", "a:a", "a:1,1"}
		for _, n := range numbers {
			list = append(list, "a:"+n)
		}
		return append(list, names...)
	}
	return nil
}

// missing are names that are not as they must be for a sort of fields.
func missing(sort string) []string {
	switch {
	case strings.HasSuffix(sort, "+"):
		return nil
	case sort == "M!":
		return []string{"m", "n", "e", "dead", "cut"}
	case sort == "M*":
		return []string{"e", "cut", "o", "a", "l", "x"}
	case sort == "F":
		return []string{"x", "m", "l", "e", "aa", "a-", "nobody", strings.Repeat("a", 16)}
	case sort == "J..":
		return []string{"x", "m:1", "a b x", "a:1 x:2", "nobody", strings.Repeat("a", 16) + ":0"}
	case sort == "R":
		return []string{"a", "m", "l", "xx", "nobody"}
	case sort == "M":
		return []string{"a", "x", "l", "mm", "nobody"}
	case sort == "L":
		return []string{"a", "x", "m", "ll", "nobody"}
	}
	return nil
}

// with is a line with another text in the place of a field.
func with(line string, at int, text string) string {
	fields := strings.Split(line, " ")
	fields[at] = text
	return strings.Join(fields, " ")
}

// D1: each field of each command, by every text that is none of its form; also where a name is not there, which would be told later.
func TestD1FieldsThatAreNone(t *testing.T) {
	d := stocked(t)
	for _, line := range examples() {
		sorts := strings.Fields(rows()[strings.Fields(line)[0]])
		for i, sort := range sorts {
			for _, text := range wrong(sort) {
				refuses(t, d, with(line, i+1, text), api.ErrDeskLine)
				for k, other := range sorts {
					for _, name := range missing(other) {
						if k != i {
							refuses(t, d, with(with(line, i+1, text), k+1, name), api.ErrDeskLine)
						}
					}
				}
			}
		}
		// Of rungs and jobs the last one, too.
		if isOpen(strings.Fields(line)[0]) {
			for _, text := range wrong(sorts[len(sorts)-1]) {
				refuses(t, d, line+" "+text, api.ErrDeskLine)
			}
		}
	}
	unchanged(t, d)
}

// D1: each name of each command that is not there, and must be, or that is, and must not be; also where too many fields, or a field that is none, would be told ahead.
func TestD1NamesThatAreNotThere(t *testing.T) {
	d := stocked(t)
	for _, line := range examples() {
		for i, sort := range strings.Fields(rows()[strings.Fields(line)[0]]) {
			for _, name := range missing(sort) {
				other := with(line, i+1, name)
				refuses(t, d, other, api.ErrDeskName)
				if !isOpen(strings.Fields(line)[0]) {
					refuses(t, d, other+" x", api.ErrDeskLine)
				}
			}
		}
	}
	unchanged(t, d)
}

// What lies on a desk: names of 1 to 16 bytes; those of one kind have nothing to do with those of another kind.
func TestNames(t *testing.T) {
	for _, name := range []string{"a", "z", "az", "a0", "a9", "a-", "a--", "a0-z", "m", strings.Repeat("a", 16), "z" + strings.Repeat("9", 15), "q" + strings.Repeat("-", 15)} {
		d := newDesk(t)
		play(t, d, "flat "+name+" 2 2 10 0 3\ncode "+name+" "+name+"\nmedium "+name+"\nlist "+name+" list 25 \"t\"")
		says(t, d, "names", "frames "+name+"; records "+name+"; media "+name+"; lists "+name)
		says(t, d, "show "+name+" 0 0 0 1 1", "3")
		says(t, d, "look "+name+" "+name, "frame 2 2 10 0 marks 0")
		says(t, d, "size "+name, "0 bytes 00000000")
		says(t, d, "print "+name, `list 25 "t"|`)
		says(t, d, "render 1 "+name+":5", "0:00000000")
	}
	d := newDesk(t)
	play(t, d, "medium a\nlist a x\nshow a 0 0 0 1 1 => error 222\nhead a => error 222\nflat a 1 1 10 0 0\nhead a => error 222\ncode b a\nopen b => error 222\nprint b => error 222\nshow b 0 0 0 1 1 => error 222")
	says(t, d, "names", "frames a; records b; media a; lists a")
	// Rising, byte by byte.
	for _, name := range strings.Fields("b a ab a-b a0 a9 aa z b-") {
		does(t, d, "flat "+name+" 1 1 10 0 0")
	}
	says(t, d, "names", "frames a a-b a0 a9 aa ab b b- z; records b; media a; lists a")
}

// Lines: numbers of one to nine digits.
func TestNumbers(t *testing.T) {
	d := newDesk(t)
	play(t, d, `
flat a 1 1 10 0 0 => frame 1 1 10 0
ramp a 1 1 10 0 999999999 999999999 => frame 1 1 10 0
noise a 1 1 10 0 999999999 => frame 1 1 10 0
flat a 1 1 10 0 999999999 => error 64
flat a 1 1 999999999 0 0 => error 61
config 999999999 999999999 999999999 999999999 999999999,999999999,999999999,999999999 => ok
code x a => error 121
config 0 0 0 0 0,0,0,0 => ok
code x a => error 121
name 2 999999999 => error 184
name 999999999 0 => error 181
name 2 0 => 00:00:00:00
name 2 123456 => 01:22:18:06`)
}
