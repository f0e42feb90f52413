package desk_test

import (
	"bytes"
	"fmt"
	"strings"
	"testing"

	"dailies/api"
	"dailies/crc"
	"dailies/desk"
	"dailies/medium"
	"dailies/picture"
	"dailies/reel"
)

// bytesOf are the bytes of a medium.
func bytesOf(t *testing.T, d *desk.Desk, name string) []byte {
	t.Helper()
	b, e := d.Medium(name)
	if e != api.OK {
		t.Fatal(name, e)
	}
	return b
}

// DOC.md, examples 5, 6 and 8 of the whole: a reel written, read in part, cut off.
func TestTheWholeByMedia(t *testing.T) {
	play(t, newDesk(t), `
config 16 16 0 2 1,1,1,0
ramp r 48 32 10 0 3 7
flat a 16 16 10 0 512
medium m => ok
record m 2 0 Day One => ok
write m r => 0 at 38 length 1209 step 0 rung 1,1,1,0
write m a => error 172
finish m => ok
open m => frames 1 finished 1 rate 2 start 0 title Day One
config 16 16 0 0 0,0,0,0
flat d 48 32 10 0 100
medium n => ok
record n 2 50 Day Two => ok
write n r => 0 at 38 length 1062 step 0 rung 0,0,0,0
write n d => 1 at 1116 length 300 step 0 rung 0,0,0,0
write n r => 2 at 1432 length 1062 step 0 rung 0,0,0,0
reads n 1 3 => reads 1116+32 1148+52 1308+36
truncate n 2000 => ok
open n => frames 2 finished 0 rate 2 start 50 title Day Two`)
}

// medium: an empty one, which is no reel, and has no recorder.
func TestMedium(t *testing.T) {
	play(t, newDesk(t), `
medium m => ok
medium m => error 222
size m => 0 bytes 00000000
open m => error 165
flat a 2 2 10 0 5
write m a => error 222
finish m => error 222
goon m => error 165
play b m 0 => error 165
reads m 0 0 => error 165
remake n m => error 165
truncate m 0 => ok
truncate m 1 => error 151
over m 0 00 => error 151
names => frames a; records; media m; lists`)
}

// record: a label, and a recorder; its errors are those of a label that may not be, and of a medium that has bytes.
func TestRecord(t *testing.T) {
	d := newDesk(t)
	long := strings.Repeat("t", 100)
	play(t, d, "flat a 2 2 10 0 5\nmedium m")
	for _, line := range []string{"record m 0 0 T", "record m 8 0 T", "record m 999999999 0 T", "record m 2 5184000 T", "record m 2 999999999 T", "record m 2 0 t" + long, "record m 2 0 \xff", "record m 2 0 a\xc3 b"} {
		refuses(t, d, line, api.ErrReelLabel)
		refuses(t, d, "write m a", api.ErrDeskName)
		says(t, d, "size m", "0 bytes 00000000")
	}
	for i, x := range []struct{ line, open string }{
		{"record m 1 0 T", "rate 1 start 0 title T"},
		{"record m 7 5183999 " + long, "rate 7 start 5183999 title " + long},
		{"record   m  2   3    Day    One   # so   ", "rate 2 start 3 title Day One # so"},
		{"record m 2 0 \u00e9 \"x\" \\n", "rate 2 start 0 title \u00e9 \"x\" \\n"},
		{"record m 2 0 0", "rate 2 start 0 title 0"},
		{"record m 2 0 ok error 5", "rate 2 start 0 title ok error 5"},
	} {
		says(t, d, x.line, "ok")
		says(t, d, "open m", "frames 0 finished 0 "+x.open)
		refuses(t, d, "record m 2 0 Again", api.ErrReelThere)
		refuses(t, d, "record m 9 0 Again", api.ErrReelLabel)
		// The recorder that it had is still there.
		does(t, d, "write m a")
		refuses(t, d, "record m 2 0 Again", api.ErrReelThere)
		if s := does(t, d, "write m a"); !strings.HasPrefix(s, "1 at ") {
			t.Fatal(i, s)
		}
		if i%2 == 0 {
			says(t, d, "finish m", "ok")
			refuses(t, d, "record m 2 0 Again", api.ErrReelThere)
			refuses(t, d, "write m a", api.ErrSessionState)
		}
		says(t, d, "truncate m 0", "ok")
	}
}

// goon: a recorder that goes on behind the last whole record; another one may be begun at any time, and the last one counts.
func TestGoOn(t *testing.T) {
	d := newDesk(t)
	play(t, d, `
flat a 2 2 10 0 5
flat b 4 2 10 0 5
medium m
goon m => error 165
record m 2 0 T
goon m => ok
write m a => 0 at 32 length 67 step 0 rung 0,0,0,0
goon m => ok
write m b => error 172
write m a => 1 at 115 length 67 step 0 rung 0,0,0,0
truncate m 181 => ok
write m a => error 222
goon m => ok
size m => 99 bytes `+sumOf(t, 99)+`
write m a => 1 at 115 length 67 step 0 rung 0,0,0,0
finish m => ok
goon m => error 164
write m a => error 171
finish m => error 171`)
	// The shape of the reel's first record holds behind goon; a reel without a record has none.
	play(t, d, "medium n\nrecord n 2 0 T\nwrite n a\ntruncate n 16\ngoon n\nwrite n b\nwrite n a => error 172\ngoon n\nwrite n a => error 172\nwrite n b")
}

// sumOf is the sum of the first bytes of a reel of one small frame.
func sumOf(t *testing.T, n int) string {
	t.Helper()
	return fmt.Sprintf("%08x", crc.Sum(wholeReel(t)[:n]))
}

// write: the configuration as it is then; its errors, and that with one of them nothing is laid down.
func TestWrite(t *testing.T) {
	d := newDesk(t)
	play(t, d, `
ramp a 20 18 10 0 3 7
ramp b 20 18 10 0 5 1
flat c 20 18 10 1 7
flat e 18 20 10 0 7
medium m
record m 2 0 T
config 16 16 0 1 0,0,0,0
code x a`)
	length := lengthOf(does(t, d, "code x a"))
	says(t, d, "write m a", "0 at 32 length "+length+" step 0 rung 0,0,0,0")
	before := does(t, d, "size m")
	play(t, d, `
write m c => error 172
write m e => error 172
config 15 16 0 0 0,0,0,0
write m e => error 172
write m a => error 121
config 16 16 99 0 0,0,0,0
write m c => error 172
write m a => error 122
size m => `+before+`
write m nobody => error 222
write nobody a => error 222
config 16 16 0 0 4,4,4,0 0,0,0,0`)
	if s := does(t, d, "write m b"); !strings.HasSuffix(s, " step 0 rung 4,4,4,0") || !strings.HasPrefix(s, fmt.Sprintf("1 at %d length ", 32+num(length)+16)) {
		t.Error(s)
	}
	small := lengthOf(does(t, d, "code y b"))
	play(t, d, "config 16 16 "+small+" 0 0,0,0,0 4,4,4,0")
	if s := does(t, d, "write m b"); !strings.HasSuffix(s, " length "+small+" step 1 rung 4,4,4,0") {
		t.Error(s)
	}
	play(t, d, "play f m 1 => frame 20 18 10 0 marks 0000\nplay f m 0\napart f a => 0,0,0,0\nopen m => frames 3 finished 0 rate 2 start 0 title T")
}

// finish: once; what is open without it goes on.
func TestFinish(t *testing.T) {
	play(t, newDesk(t), `
flat a 2 2 10 0 5
medium m
finish m => error 222
record m 2 0 T
finish m => ok
open m => frames 0 finished 1 rate 2 start 0 title T
finish m => error 171
write m a => error 171
record m 2 0 T => error 162
goon m => error 164
finish m => error 171
finish nobody => error 222`)
}

// die, revive: a medium that dies in the midst of a write, each of its writes, of which any part stays; goon goes on with what lies whole.
func TestDie(t *testing.T) {
	whole := newDesk(t)
	play(t, whole, "ramp a 4 2 10 0 3 7\nmedium m\nrecord m 2 0 T\nwrite m a\nwrite m a\nwrite m a\nfinish m")
	all := bytesOf(t, whole, "m")
	one := num(lengthOf(does(t, whole, "code x a")))
	ends := []int{0, 16, 32 + one, 48 + 2*one, 64 + 3*one, len(all)}
	lines := []string{"record m 2 0 T", "write m a", "write m a", "write m a", "finish m"}
	for n := range lines {
		for _, keep := range []int{0, 1, 15, 16, 17, 40, one, one + 15, one + 16, one + 17, 999999999} {
			d := newDesk(t)
			play(t, d, "ramp a 4 2 10 0 3 7\nmedium m")
			says(t, d, fmt.Sprintf("die m %d %d", n+1, keep), "ok")
			for _, line := range lines[:n] {
				does(t, d, line)
			}
			refuses(t, d, lines[n], api.ErrMediumDead)
			if got := bytesOf(t, d, "m"); !bytes.Equal(got, all[:ends[n]+min(keep, ends[n+1]-ends[n])]) {
				t.Fatal(n, keep, len(got))
			}
			// A recorder that was begun is done; one that was not is none.
			want := api.ErrSessionState
			if n == 0 {
				want = api.ErrDeskName
			}
			refuses(t, d, "write m a", want)
			refuses(t, d, "finish m", want)
			for _, line := range []string{"open m", "play f m 0", "reads m 0 0", "remake o m", "goon m", "die m 0 0", "die m 1 1"} {
				refuses(t, d, line, api.ErrMediumDead)
			}
			says(t, d, "revive m", "ok")
			refuses(t, d, "write m a", want)
			goneOn(t, d, n, all)
		}
	}
}

// goneOn goes on with a reel of which n Appends stood, or one more, up to the end of it.
func goneOn(t *testing.T, d *desk.Desk, n int, all []byte) {
	t.Helper()
	switch s, e := d.Do("goon m"); {
	case e == api.ErrReelNone && n == 0:
		if len(bytesOf(t, d, "m")) > 0 {
			refuses(t, d, "record m 2 0 T", api.ErrReelThere)
		}
		play(t, d, "truncate m 0\nrecord m 2 0 T")
	case e == api.ErrReelDone && n == 4:
		if !bytes.Equal(bytesOf(t, d, "m"), all) {
			t.Fatal("finished, but not as it was to be")
		}
		return
	case s != "ok" || e != api.OK:
		t.Fatal(s, e)
	}
	for {
		if strings.HasPrefix(does(t, d, "open m"), "frames 3 ") {
			break
		}
		does(t, d, "write m a")
	}
	says(t, d, "finish m", "ok")
	if !bytes.Equal(bytesOf(t, d, "m"), all) {
		t.Fatal("not the bytes that there would have been")
	}
}

// die, revive: arms of 0 are none; a medium that lives may be revived, and is not armed then; a dead one is looked at by size, truncate and over.
func TestDieAndRevive(t *testing.T) {
	play(t, newDesk(t), `
flat a 2 2 10 0 5
medium m
record m 2 0 T
die m 1 0 => ok
die m 0 5 => ok
write m a
die m 1 0 => ok
revive m => ok
write m a
die m 2 3 => ok
write m a
write m a => error 152
truncate m 999999999 => error 151
over m 999999999 00 => error 151
write m a => error 171
over m 0 52 => ok
write m a => error 222
truncate m 99 => ok
open m => error 152
goon m => error 152
revive m => ok
revive m => ok
goon m => ok
open m => frames 1 finished 0 rate 2 start 0 title T
write m a => 1 at 115 length 67 step 0 rung 0,0,0,0
die nobody 1 1 => error 222
revive nobody => error 222`)
}

// truncate, over: if they go, the medium has no recorder any more; if not, it has the one that it had. No other medium loses its own.
func TestTruncateAndOver(t *testing.T) {
	d := newDesk(t)
	play(t, d, "flat a 2 2 10 0 5\nmedium m\nmedium n\nrecord m 2 0 T\nrecord n 2 0 T\nwrite m a\nwrite n a")
	for _, line := range []string{"truncate m 100", "truncate m 999999999", "over m 99 00", "over m 98 0000", "over m 999999999 00", "over m 10 " + strings.Repeat("00", 90)} {
		refuses(t, d, line, api.ErrMediumRange)
	}
	does(t, d, "write m a")
	for i, line := range []string{"truncate m 182", "truncate m 181", "over m 98 00", "over m 0 5245454c", "truncate m 99", "over m 98 00", "truncate m 0"} {
		says(t, d, line, "ok")
		refuses(t, d, "write m a", api.ErrDeskName)
		refuses(t, d, "finish m", api.ErrDeskName)
		does(t, d, "write n a")
		if i < 6 {
			says(t, d, "goon m", "ok")
		}
	}
	play(t, d, "over n 0 00\nopen n => error 165\ngoon n => error 165\nsize m => 0 bytes 00000000")
	b := bytesOf(t, d, "n")
	if len(b) != 16+8*83 || b[0] != 0 || b[1] != 'E' {
		t.Error(len(b), b[:2])
	}
}

// size: how many bytes, and their sum; open: what the reel is.
func TestSizeAndOpen(t *testing.T) {
	d := newDesk(t)
	play(t, d, `
medium m
record m 2 0 a
size m => 16 bytes 38fb2284
open m => frames 0 finished 0 rate 2 start 0 title a
over m 0 52 => ok
open m => frames 0 finished 0 rate 2 start 0 title a
over m 0 53 => ok
open m => error 165
size nobody => error 222
open nobody => error 222`)
}

// play: the frame of a record, sound, mended or lost, where the frame is laid; a place that is not there.
func TestPlay(t *testing.T) {
	d := newDesk(t)
	play(t, d, `
ramp a 20 18 10 0 3 7
noise b 20 18 10 0 4
config 16 16 0 1 0,0,0,0
medium m
record m 2 0 T
write m a
config 16 16 0 0 0,0,0,0
write m b
play c m 0 => frame 20 18 10 0 marks 0000
apart a c => 0,0,0,0
play c m 1 => frame 20 18 10 0 marks 0000
apart b c => 0,0,0,0
play c m 2 => error 173
play c m 3 => error 173
play c m 999999999 => error 173
apart b c => 0,0,0,0
play d m 2 => error 173
play d nobody 0 => error 222
play a m 1 => frame 20 18 10 0 marks 0000
apart a b => 0,0,0,0
names => frames a b c; records; media m; lists`)
	at := entries(t, 1)[2].At
	play(t, d, fmt.Sprintf("over m %d 0a0b0c\nplay c m 0 => frame 20 18 10 0 marks 0010\nplay b m 1 => frame 20 18 10 0 marks 0000\nover m %d 0a0b0c\nplay c m 0 => frame 20 18 10 0 marks 0220", 32+at+3, 32+entries(t, 1)[1].At+3))
	// A head, a table, a link that is none.
	play(t, d, "over m 36 01\nplay c m 0 => error 123\nplay b m 1 => frame 20 18 10 0 marks 0000\nover m 70 aabb\nplay c m 0 => error 123\nover m 16 00\nplay c m 0 => error 173\nopen m => frames 0 finished 0 rate 2 start 0 title T")
}

// reads: just what is read for one slice, each time as if nothing had been read ahead.
func TestReads(t *testing.T) {
	d := newDesk(t)
	play(t, d, "ramp a 20 18 10 0 3 7\nconfig 16 16 0 1 0,0,0,0\nmedium m\nrecord m 2 0 T\nwrite m a\nwrite m a")
	list := entries(t, 1)
	span := func(e api.Entry) string { return fmt.Sprintf(" %d+%d", 32+e.At, e.Length) }
	head := "reads 32+32 64+40"
	for i := range 2 {
		for k := range 4 {
			says(t, d, fmt.Sprint("reads m 0 ", k), head+span(list[k]))
		}
		play(t, d, fmt.Sprintf("open m\nplay b m 1\nremake n%d m", i))
	}
	refuses(t, d, "reads m 0 4", api.ErrViewSlice)
	refuses(t, d, "reads m 2 0", api.ErrSessionSeek)
	refuses(t, d, "reads m 3 0", api.ErrSessionSeek)
	refuses(t, d, "reads nobody 0 0", api.ErrDeskName)
	// Where the slice is spoilt, the others and the parity row are read, too; where another one is, they are not.
	says(t, d, fmt.Sprintf("over m %d 0a0b0c", 32+list[1].At+3), "ok")
	says(t, d, "reads m 0 1", head+span(list[1])+span(list[0])+span(list[2])+span(list[3])+span(list[4]))
	says(t, d, "reads m 0 0", head+span(list[0]))
	says(t, d, "over m 65 ffff", "ok")
	refuses(t, d, "reads m 0 0", api.ErrPictureTable)
}

// remake: the reel again, finished or not, on a medium that was not there; if it is refused, it is not there.
func TestRemake(t *testing.T) {
	d := newDesk(t)
	play(t, d, `
ramp a 20 18 10 0 3 7
noise b 20 18 10 0 4
config 16 16 0 1 2,1,3,0
medium m
record m 3 77 Day One
write m a
remake n m => 1 frames
config 32 16 0 2 0,0,0,0
write m b
finish m
remake o m => 2 frames
open n => frames 1 finished 0 rate 3 start 77 title Day One
open o => frames 2 finished 1 rate 3 start 77 title Day One
write n a => error 222
goon n => ok
write n b
finish n
remake o m => error 222
remake m m => error 222
remake q nobody => error 222
remake m nobody => error 222`)
	if !bytes.Equal(bytesOf(t, d, "m"), bytesOf(t, d, "n")) || !bytes.Equal(bytesOf(t, d, "m"), bytesOf(t, d, "o")) {
		t.Error("other bytes")
	}
	// What is mended is as it was; what is lost is not made again.
	whole := bytesOf(t, d, "m")
	play(t, d, "over m 120 00\nplay f m 0 => frame 20 18 10 0 marks 1000\nremake p m => 2 frames")
	if !bytes.Equal(whole, bytesOf(t, d, "p")) {
		t.Error("not mended")
	}
	play(t, d, `
medium lost
record lost 2 0 T
config 16 16 0 0 0,0,0,0
write lost a
over lost 120 00
play f lost 0 => frame 20 18 10 0 marks 2000
remake q lost => error 174
size q => error 222
names => frames a b f; records; media lost m n o p; lists`)
}

// D2: the bytes of a medium are their owner's to write over; a name that is none of a medium is ErrDeskName.
func TestD2Medium(t *testing.T) {
	d := newDesk(t)
	for _, name := range []string{"", "m", "a", "l", " ", "M", "\n", strings.Repeat("m", 300)} {
		if b, e := d.Medium(name); len(b) != 0 || e != api.ErrDeskName {
			t.Fatalf("%q: %d bytes (%d)", name, len(b), e)
		}
	}
	play(t, d, "flat a 2 2 10 0 5\ncode x a\nlist l x\nmedium m")
	for _, name := range []string{"", "a", "x", "l", " m", "m ", "mm", "M"} {
		if b, e := d.Medium(name); len(b) != 0 || e != api.ErrDeskName {
			t.Fatalf("%q: %d bytes (%d)", name, len(b), e)
		}
	}
	if b := bytesOf(t, d, "m"); len(b) != 0 {
		t.Fatal(len(b))
	}
	play(t, d, "record m 2 0 T\nwrite m a")
	want := wholeReel(t)
	for range 3 {
		b := bytesOf(t, d, "m")
		if !bytes.Equal(b, want) {
			t.Fatal("not the bytes of such a reel")
		}
		all := b[:cap(b)]
		for i := range all {
			all[i] ^= 255
		}
	}
	play(t, d, "play b m 0 => frame 2 2 10 0 marks 0\napart a b => 0,0,0,0\nremake n m => 1 frames\ndie m 1 5\nwrite m a => error 152")
	if !bytes.Equal(bytesOf(t, d, "n"), want) || len(bytesOf(t, d, "m")) != len(want)+5 {
		t.Error("not the bytes that there are")
	}
}

// wholeReel are the bytes of a reel of one small frame, by the layers below.
func wholeReel(t *testing.T) []byte {
	t.Helper()
	x, e := picture.Encode(frameOf(t, api.Shape{Width: 2, Height: 2, Depth: 10}, 5), api.Config{SliceW: 32, SliceH: 32, Ladder: []api.Rung{{}}})
	if e != api.OK {
		t.Fatal(e)
	}
	m := medium.New()
	w, e := reel.Create(m, api.Label{Title: "T", Rate: api.Rate25})
	if e != api.OK {
		t.Fatal(e)
	}
	if _, e := w.Add(x.Bytes); e != api.OK {
		t.Fatal(e)
	}
	return m.Bytes()
}
