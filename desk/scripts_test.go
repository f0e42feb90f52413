package desk_test

import (
	"bytes"
	"fmt"
	"maps"
	"slices"
	"strings"
	"testing"

	"dailies/api"
	"dailies/desk"
)

// writer tells lines as if by chance, most of which go on a desk like this one.
type writer struct {
	chance
	desk *bench
}

// nameOf is a name of a sort: mostly one that goes.
func (w *writer) nameOf(sort string) string {
	any := fmt.Sprintf("%c%d", sort[0]+'a'-'A', w.below(18))
	if w.below(12) == 0 || strings.HasSuffix(sort, "!") {
		return any
	}
	var there []string
	switch {
	case sort == "M*":
		there = slices.Sorted(maps.Keys(w.desk.recorders))
	case sort[0] == 'F':
		there = slices.Sorted(maps.Keys(w.desk.frames))
	case sort[0] == 'R':
		there = slices.Sorted(maps.Keys(w.desk.records))
	case sort[0] == 'M':
		there = slices.Sorted(maps.Keys(w.desk.media))
	case sort[0] == 'L':
		there = slices.Sorted(maps.Keys(w.desk.lists))
	}
	if len(there) == 0 || strings.HasSuffix(sort, "+") && w.below(3) == 0 {
		return any
	}
	return of(&w.chance, there...)
}

// field is one of a sort, at a place of a command: mostly one that goes.
func (w *writer) field(command string, at int, sort string) string {
	c := &w.chance
	switch strings.TrimRight(sort, "+!*.") {
	case "F", "R", "M", "L":
		return w.nameOf(sort)
	case "S":
		return fmt.Sprint(of(c, 20, 20, 20, 20, 20, 20, 20, 64))
	case "A":
		return fmt.Sprint(of(c, 0, 0, 0, 0, 0, 1))
	case "X":
		return of(c, "00", "ff00ff00", "4c494e4b", "0102030405060708090a")
	case "K":
		return of(c, "planar", "v210")
	case "T":
		return of(c, "00:00:01:00", "00:01:00;00", "00:10:00;00", "x", "24:00:00:00")
	case "G":
		return of(c, "0,0,0,0", "1,1,1,0", "0,0,0,0 9,9,9,0", "1,2,3,4", "64,0,0,0")
	case "J":
		return w.nameOf("F") + of(c, "", "", ":1", ":5") + of(c, "", " "+w.nameOf("F"))
	case "":
		return w.rest(command)
	}
	return fmt.Sprint(w.number(command, at))
}

// number is one that goes at the place of a command, mostly.
func (w *writer) number(command string, at int) int {
	c := &w.chance
	if c.below(25) == 0 {
		return of(c, 0, 1, 7, 64, 999999999)
	}
	switch command {
	case "flat", "ramp", "noise":
		if at == 3 {
			return of(c, 10, 10, 10, 10, 12)
		}
		return c.below(1000)
	case "part", "region":
		return of(c, 0, 2, 2, 4)
	case "mix", "name", "number", "convert", "render":
		return 1 + c.below(4) + at%2*c.below(3)
	case "config":
		return [][]int{{16, 32}, {16, 64}, {0, 2500}, {0, 1}}[at][c.below(2)]
	case "spoil", "over", "truncate":
		return c.below(of(c, 200, 1000, 3000))
	case "record":
		return of(c, 2, 2, 2, 1)
	case "die":
		return of(c, 0, 1, 2, 30)
	}
	return of(c, 0, 0, 0, 1, 1, 2, 3)
}

func (w *writer) rest(command string) string {
	c := &w.chance
	if command == "record" {
		return of(c, "Day", "Day  Two", "Day", "\xff", `"`, strings.Repeat("t", 101))
	}
	in := c.below(3)
	out := in + 1 + c.below(3)
	times := fmt.Sprintf("%s 00:00:00:%02d 00:00:00:%02d", w.nameOf("M"), in, out)
	return of(c, `list 25 "a  title"`, `list 25 "b"`, "cut "+times, "cut "+times, "cut "+times, "fade 1 "+times, "fade 1 "+times, "# nothing", "cut")
}

// line is one as if by chance: mostly one of a command's form.
func (w *writer) line() string {
	command := of(&w.chance, weighted()...)
	line := command
	for i, sort := range strings.Fields(rows()[command]) {
		line += of(&w.chance, " ", " ", " ", "   ") + w.field(command, i, sort)
	}
	switch w.below(60) {
	case 0:
		return line + " x"
	case 1:
		return line[:w.below(len(line)+1)]
	case 2:
		return " " + line + "  "
	case 3:
		at := w.below(len(line) + 1)
		return line[:at] + of(&w.chance, "\n", "0", "#", "A", "-", ",", ":", "\xff") + line[at:]
	case 4:
		return "#" + line
	}
	return line
}

// weighted are all commands, those by which things come oftener.
func weighted() []string {
	all := strings.Fields("flat ramp noise code code medium record record write write write write goon finish list list list list build revive play reads")
	for _, line := range examples() {
		all = append(all, strings.Fields(line)[0])
	}
	return all
}

// agree looks whether a desk answers a line as the chapter's words have it, and has the same bytes on all media.
func agree(t *testing.T, d *desk.Desk, b *bench, line string) told {
	t.Helper()
	want := tell(b.do(line))
	if x := tell(d.Do(line)); x != want {
		t.Fatalf("%q: %q (%d), not %q (%d)", line, x.text, x.errno, want.text, want.errno)
	}
	for name, m := range b.media {
		all, e := d.Medium(name)
		if e != api.OK || !bytes.Equal(all, m.Bytes()) {
			t.Fatalf("behind %q: other bytes on %s (%d)", line, name, e)
		}
	}
	return want
}

// D1, D2, P2: scripts as if by chance are answered as the chapter's words have it, line by line, by a desk that was refused many lines before; each command has gone well, and has been refused.
func TestScripts(t *testing.T) {
	w := writer{chance: 2201}
	well, refused := map[string]int{}, map[string]int{}
	mixed := false
	for round := range 120 {
		d, b := newDesk(t), newBench()
		w.desk = b
		if round%2 == 0 {
			for _, line := range strings.Split(strings.TrimSpace(stock), "\n") {
				agree(t, d, b, line)
			}
		}
		for range 200 {
			line := w.line()
			x := agree(t, d, b, line)
			mixed = mixed || strings.Contains(x.text, "copied") && !strings.HasSuffix(x.text, "mixed 0")
			if fields := strings.Fields(line); len(fields) > 0 && x.errno == api.OK {
				well[fields[0]]++
			} else if len(fields) > 0 {
				refused[fields[0]]++
			}
		}
	}
	for command := range rows() {
		if well[command] < 50 || refused[command] < 1 {
			t.Errorf("%s: hardly any lines, %d and %d refused", command, well[command], refused[command])
		}
	}
	if !mixed {
		t.Error("no list fades")
	}
}

// D3, D4: Run answers just what Do answers line by line, and the same each time.
func TestD4RunIsDo(t *testing.T) {
	w := writer{chance: 2204}
	for range 40 {
		b := newBench()
		w.desk = b
		var script, want string
		lines := 1 + w.below(150)
		for i := range lines {
			line := strings.ReplaceAll(w.line(), "\n", "")
			script += line
			if i+1 < lines || w.below(2) == 0 || line == "" {
				script += "\n"
			}
			switch s, e := b.do(line); {
			case e != api.OK:
				want += fmt.Sprintf("error %d\n", int(e))
			case s != "":
				want += s + "\n"
			}
		}
		for range 2 {
			if s, n, e := desk.Run(script); s != want || n != lines || e != api.OK {
				t.Fatalf("%q: %q, %d (%d), not %q, %d", script, s, n, e, want, lines)
			}
		}
	}
}

// P4: two desks beside one another, their lines in turn as if by chance, know nothing of each other.
func TestTwoDesks(t *testing.T) {
	w := writer{chance: 2205}
	for range 5 {
		var desks []*desk.Desk
		var benches []*bench
		for range 3 {
			desks, benches = append(desks, newDesk(t)), append(benches, newBench())
		}
		for range 400 {
			i := w.below(3)
			w.desk = benches[i]
			agree(t, desks[i], benches[i], w.line())
		}
	}
	// The same names, and other things.
	d, x := newDesk(t), newDesk(t)
	play(t, d, "flat a 4 2 10 0 7\nmedium m\nrecord m 2 0 One\nlist l list 25 \"a\"\nconfig 16 16 9 0 0,0,0,0")
	play(t, x, "show a 0 0 0 1 1 => error 222\nwrite m a => error 222\nprint l => error 222\nnames => frames; records; media; lists")
	play(t, x, "flat a 4 2 10 0 8\ncode r a\nmedium m\nfinish m => error 222\nnames => frames a; records r; media m; lists")
	play(t, d, "show a 0 0 0 1 1 => 7\ncode r a => error 122\nfinish m => ok\nnames => frames a; records; media m; lists l")
}

// P1: lines of any bytes, and of a command with any bytes behind it, end in an answer or an error.
func TestP1AnyBytes(t *testing.T) {
	c := chance(2206)
	d, b := stocked(t), newBench()
	for _, line := range strings.Split(strings.TrimSpace(stock)+"\nwrite dead c", "\n") {
		b.do(line)
	}
	for range 20000 {
		var line []byte
		if c.below(2) == 0 {
			line = append(line, of(&c, weighted()...)...)
		}
		for range c.below(12) {
			line = append(line, of(&c, " ", " ", "a", "m", "x", "0", "1", "9", ",", ":", "-", "#", "0,0,0,0", string([]byte{byte(c.below(256))}))...)
		}
		want := tell(b.do(string(line)))
		if x := tell(d.Do(string(line))); x != want {
			t.Fatalf("%q: %q (%d), not %q (%d)", line, x.text, x.errno, want.text, want.errno)
		}
	}
}
