package desk_test

import (
	"bytes"
	"fmt"
	"strings"
	"testing"

	"dailies/api"
	"dailies/desk"
)

// list, print: a list grows line by line, each with one blank between fields; print tells it in its one way, or where it is none.
func TestListAndPrint(t *testing.T) {
	play(t, newDesk(t), `
print l => error 222
list l list  25   "one" => ok
print l => list 25 "one"|
list l # cut => ok
list l    cut   a   00:00:01:00 00:00:02:00    => ok
print l => list 25 "one"|cut a 00:00:01:00 00:00:02:00|
list l fade 5 b-2 00:00:00:00 00:00:00:10 "x  y" # so => ok
print l => list 25 "one"|cut a 00:00:01:00 00:00:02:00|fade 5 b-2 00:00:00:00 00:00:00:10 "x y"|
list l fade 6 c 00:00:00:00 00:00:00:10 => ok
print l => fault 195 at 96
list k x => ok
print k => fault 193 at 0
list k list 25 "a" => ok
print k => fault 193 at 0
list j list 25
print j => fault 193 at 7
list i list 25 "a" b
print i => fault 193 at 12
list h list 30d "a"
list h cut a 00:00:00;00 00:01:00;00
print h => fault 194 at 31
list g # nothing
print g => fault 193 at 10
list f list 25 "a\nb\"|\\"
print f => list 25 "a\nb\"|\\"|
print nobody => error 222
list l => error 221
names => frames; records; media; lists f g h i j k l`[1:])
}

// list: its rest may have any bytes.
func TestListBytes(t *testing.T) {
	d := newDesk(t)
	says(t, d, "list l list 25 \"\u00e9\u00a0|\"", "ok")
	says(t, d, "print l", "list 25 \"\u00e9\u00a0|\"|")
	says(t, d, "list l \xff", "ok")
	says(t, d, "print l", "fault 192 at 16")
	says(t, d, "list k list\t25\t\"a\"\t#\t", "ok")
	says(t, d, "print k", `list 25 "a"|`)
	says(t, d, "list j list 25 \"a\r\"", "ok")
	says(t, d, "print j", "list 25 \"a\r\"|")
}

// list, print, build: a list may be too long; one that is stays so.
func TestLongLists(t *testing.T) {
	d := newDesk(t)
	play(t, d, "list l list 25 \"t\"")
	size := len("list 25 \"t\"\n")
	for size < 20000 {
		n := min(193, 20000-size-1)
		if 20000-size-1-n == 1 {
			n--
		}
		says(t, d, "list l #"+strings.Repeat("x", n-1), "ok")
		size += n + 1
		says(t, d, "print l", `list 25 "t"|`)
	}
	if size != 20000 {
		t.Fatal(size)
	}
	says(t, d, "build m l", "frames 0 copied 0 mixed 0")
	for range 300 {
		says(t, d, "list l #", "ok")
		says(t, d, "print l", "fault 191 at 0")
		says(t, d, "build o l", "fault 191 at 0")
	}
	says(t, d, "names", "frames; records; media m; lists l")
	// Events, one more than there may be.
	play(t, d, "list k list 25 \"t\"")
	for range 200 {
		does(t, d, "list k cut a 00:00:00:00 00:00:00:01")
		if s := does(t, d, "print k"); strings.HasPrefix(s, "fault") {
			t.Fatal(s)
		}
	}
	play(t, d, "list k cut a 00:00:00:00 00:00:00:01\nprint k => fault 196 at "+fmt.Sprint(12+200*30))
}

// DOC.md, example 7 of the whole: a list of one reel, built.
func TestTheWholeByLists(t *testing.T) {
	d := newDesk(t)
	play(t, d, `
config 16 16 0 0 0,0,0,0
ramp r 48 32 10 0 3 7
flat d 48 32 10 0 100
medium n
record n 2 50 Day Two
write n r
write n d
write n r
list l list 25 "cut"
list l cut n 00:00:02:00 00:00:02:02
list l cut n 00:00:02:01 00:00:02:03
build o l => frames 4 copied 4 mixed 0
open o => frames 4 finished 1 rate 2 start 0 title cut`)
	for i, name := range []string{"r", "d", "d", "r"} {
		says(t, d, fmt.Sprint("play x o ", i), "frame 48 32 10 0 marks 000000")
		says(t, d, "apart x "+name, "0,0,0,0")
	}
}

// build: a new reel by a list of several ones; what is mixed is coded by the configuration, what is copied is as it is.
func TestBuild(t *testing.T) {
	d := stocked(t)
	play(t, d, "config 16 16 0 2 2,2,2,0\nbuild o l => frames 3 copied 2 mixed 1\nopen o => frames 3 finished 1 rate 2 start 0 title cut")
	play(t, d, `
play p m 0
play q o 0 => frame 20 18 10 0 marks 0000
apart p q => 0,0,0,0
play q o 2
play p n 1
apart p q => 0,0,0,0
play p m 1
play r n 0
mix p p r 1 2
play q o 1 => frame 20 18 10 0 marks 0000`)
	s := does(t, d, "apart p q")
	for _, far := range strings.Split(s, ",") {
		if num(far) > 2 {
			t.Error(s)
		}
	}
	play(t, d, "code w p\nlook e w\napart e q => 0,0,0,0\nbuild o l => error 222\nbuild m l => error 222\nbuild q nobody => error 222\nwrite o a => error 222\ngoon o => error 164")
	// What is built is a medium like others.
	play(t, d, "list again list 25 \"\"\nlist again cut o 00:00:00:01 00:00:00:03\nbuild q again => frames 2 copied 2 mixed 0\nplay x q 1\nplay y n 1\napart x y => 0,0,0,0")
	says(t, d, "open q", "frames 2 finished 1 rate 2 start 0 title ")
}

// build: the fault of a list that is none, and what Build refuses; no medium is there then.
func TestBuildRefused(t *testing.T) {
	for _, x := range []struct{ list, want string }{
		{"cut nobody 00:00:00:00 00:00:00:01", "refused 201"},
		{"cut e 00:00:00:00 00:00:00:01", "refused 201"},    // without bytes
		{"cut dead 00:00:00:07 00:00:00:08", "refused 201"}, // dead
		{"cut cut 00:00:00:03 00:00:00:04", "refused 202"},  // of another rate
		{"cut m 00:00:00:00 00:00:00:04", "refused 203"},
		{"cut n 00:00:01:00 00:00:01:01", "refused 203"},
		{"cut n 00:00:02:00 00:00:02:03", "refused 203"},
		{"cut bad 00:00:00:00 00:00:00:01", "frames 1 copied 1 mixed 0"},
		{"cut m 00:00:00:00 00:00:00:01|fade 1 bad 00:00:00:00 00:00:00:01", "refused 174"},
		{"cut m 00:00:00:00 00:00:00:01|fade 1 small 00:00:00:00 00:00:00:01", "refused 204"},
		{"cut m 00:00:00:00 00:00:00:01|cut small 00:00:00:00 00:00:00:01", "frames 2 copied 2 mixed 0"},
		{"cut m 00:00:00:00 00:00:00:01|fade 1 m 00:00:00:01 00:00:00:02", "frames 1 copied 0 mixed 1"},
		{"cut m 00:00:00:01 00:00:00:01", "fault 194 at 30"},
		{"fade 1 m 00:00:00:01 00:00:00:02", "fault 195 at 12"},
		{"cut m 00:00:00:01", "fault 193 at 29"},
		{"cut M 00:00:00:00 00:00:00:01", "fault 193 at 16"},
	} {
		d := deskWithList(t, x.list)
		says(t, d, "build o new", x.want)
		want := api.ErrDeskName
		if strings.HasPrefix(x.want, "frames") {
			want = api.OK
		}
		if _, e := d.Do("size o"); e != want {
			t.Fatal(x, e)
		}
	}
	// A configuration that may not be counts where frames are mixed.
	d := stocked(t)
	play(t, d, "config 15 16 0 0 0,0,0,0\nbuild o l => refused 121\nconfig 16 16 9 0 0,0,0,0\nbuild o l => refused 122\nlist k list 25 \"k\"\nlist k cut m 00:00:00:00 00:00:00:01\nbuild o k => frames 1 copied 1 mixed 0\nbuild q wrong => fault 193 at 14\nbuild q far => refused 203\nsize q => error 222")
}

// deskWithList is a stocked desk with two reels more, one of which has lost a slice, and a list of these lines.
func deskWithList(t *testing.T, lines string) *desk.Desk {
	t.Helper()
	d := stocked(t)
	play(t, d, "medium bad\nrecord bad 2 0 T\nconfig 16 16 0 0 0,0,0,0\nwrite bad a\nover bad 110 0000ffff\nplay f bad 0 => frame 20 18 10 0 marks 2000\nmedium small\nrecord small 2 0 T\nwrite small c")
	says(t, d, "list new list 25 \"t\"", "ok")
	for _, line := range strings.Split(lines, "|") {
		says(t, d, "list new "+line, "ok")
	}
	return d
}

// build: reels as they are when it is built, and nothing of them changes.
func TestBuildTakesReelsAsTheyAre(t *testing.T) {
	d := stocked(t)
	m, n := bytesOf(t, d, "m"), bytesOf(t, d, "n")
	play(t, d, "build o l => frames 3 copied 2 mixed 1")
	if !bytes.Equal(m, bytesOf(t, d, "m")) || !bytes.Equal(n, bytesOf(t, d, "n")) {
		t.Error("a reel has changed")
	}
	play(t, d, "write n b => 2 at "+fmt.Sprint(len(n)+16)+" length "+lengthOf(does(t, d, "code w b"))+" step 0 rung 0,0,0,0")
	play(t, d, "die n 1 4\nwrite n b => error 152\nbuild p l => refused 201\nrevive n\nbuild p l => frames 3 copied 2 mixed 1\ntruncate n 1000\nbuild q l => refused 203\nover m 0 00\nbuild q l => refused 201\nsize q => error 222")
	if !bytes.Equal(bytesOf(t, d, "o"), bytesOf(t, d, "p")) {
		t.Error("other bytes of the same reels")
	}
}
