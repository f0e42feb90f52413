package desk_test

import (
	"fmt"
	"strings"
	"testing"

	"dailies/api"
	"dailies/desk"
)

// chance tells numbers that look as if by chance, the same ones each time.
type chance uint64

func (c *chance) below(n int) int {
	*c = *c*6364136223846793005 + 1442695040888963407
	return int(uint64(*c)>>33) % n
}

// of is one of some, as if by chance.
func of[T any](c *chance, some ...T) T { return some[c.below(len(some))] }

// newDesk is an empty one.
func newDesk(t *testing.T) *desk.Desk {
	t.Helper()
	d := desk.New()
	if d == nil {
		t.Fatal("no desk")
	}
	return d
}

// says looks whether a line is answered so.
func says(t *testing.T, d *desk.Desk, line, want string) {
	t.Helper()
	if s, e := d.Do(line); s != want || e != api.OK {
		t.Fatalf("%q: %q (%d), not %q", line, s, e, want)
	}
}

// refuses looks whether a line is answered by an error, and by nothing else.
func refuses(t *testing.T, d *desk.Desk, line string, want api.Errno) {
	t.Helper()
	if s, e := d.Do(line); s != "" || e != want {
		t.Fatalf("%q: %q (%d), not the error %d", line, s, e, want)
	}
}

// does is what a line is answered that must not be refused.
func does(t *testing.T, d *desk.Desk, line string) string {
	t.Helper()
	s, e := d.Do(line)
	if e != api.OK {
		t.Fatalf("%q: error %d", line, e)
	}
	return s
}

// told is what a line was answered.
type told struct {
	text  string
	errno api.Errno
}

func tell(s string, e api.Errno) told { return told{s, e} }

// play does lines and looks at what each is answered: `line => answer`, or `line => error N`; a line alone must not be refused.
func play(t *testing.T, d *desk.Desk, script string) {
	t.Helper()
	for _, row := range strings.Split(strings.TrimSpace(script), "\n") {
		line, want, asked := strings.Cut(strings.TrimSpace(row), " => ")
		x := tell(d.Do(line))
		text := x.text
		if x.errno != api.OK {
			text = fmt.Sprint("error ", int(x.errno))
			if x.text != "" {
				t.Fatalf("%q: %q beside an error", line, x.text)
			}
		}
		if asked && text != want || !asked && x.errno != api.OK {
			t.Fatalf("%q: %q, not %q", line, text, want)
		}
	}
}

// stock are lines that lay things of all kinds on a desk: reels that are finished, not finished, dead, empty, cut off; lists that are right and that are not.
const stock = `
config 16 16 0 1 0,0,0,0
ramp a 20 18 10 0 3 7
noise b 20 18 10 0 5
flat c 4 2 12 1 9
mix d a b 1 3
code x a
code y b
code z c
code hurt a
spoil hurt 120 ff00ff00ff
config 16 16 0 0 1,1,1,0 9,9,9,0
code bare b
spoil bare 130 0102
code none a
spoil none 0 00
medium m
record m 2 0 Day One
write m a
write m b
write m d
finish m
medium n
record n 2 50 Day Two
write n b
write n a
medium e
medium dead
record dead 2 7 Gone
write dead c
die dead 1 9
medium cut
record cut 1 3 Cut off
write cut c
write cut c
truncate cut 130
list l list 25 "cut"
list l cut m 00:00:00:00 00:00:00:02
list l fade 1 n 00:00:02:00 00:00:02:02 "fades"
list wrong list 25 "cut" 7
list far list 25 "far"
list far cut m 00:00:00:00 00:00:00:09
config 16 16 0 1 0,0,0,0
`

// stocked is a desk with all that, and a dead medium.
func stocked(t *testing.T) *desk.Desk {
	t.Helper()
	d := newDesk(t)
	play(t, d, stock)
	refuses(t, d, "write dead c", api.ErrMediumDead)
	return d
}

// examples are a line of each command that is done on a stocked desk.
func examples() []string {
	return []string{
		"flat f 4 2 10 0 7", "ramp f 4 2 10 1 3 5", "noise f 4 2 12 0 7",
		"dot a 0 3 2 1", "part f a 2 3 4 5", "mix f a b 1 2",
		"show a 0 3 2 4 1", "apart a b", "error a b 1", "pack a planar",
		"config 32 16 5000 1 0,0,0,0 5,5,5,0", "code w a", "head x", "look f x", "slice x 3",
		"region f x 2 3 4 5", "again w x", "spoil x 40 00ff",
		"medium o", "record e 4 9 Day Three", "goon n", "write n b", "finish n",
		"die n 1 5", "revive dead", "truncate n 500", "over n 600 0a0b", "size m", "open m",
		"play f m 1", "reads m 1 2", "remake o m",
		"list more cut m 00:00:00:00", "print l", "build o l", "render 2 a:1 b",
		"name 4 1800", "number 4 00:10:00;00", "convert 1 2 48", "names",
	}
}
