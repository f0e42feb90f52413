package desk_test

import (
	"bytes"
	"encoding/binary"
	"fmt"
	"slices"
	"strings"
	"testing"

	"dailies/api"
	"dailies/crc"
	"dailies/desk"
	"dailies/picture"
	"dailies/slice"
)

// within looks whether a rung that a line told is nowhere above another one.
func within(t *testing.T, line, told, most string) {
	t.Helper()
	far, rung := rungIn(told), rungIn(most)
	for p := range far {
		if far[p] > rung[p] {
			t.Fatalf("%q: %s, above %s", line, told, most)
		}
	}
}

// frameLines are lines that lay a frame a on a desk, of many sorts.
func frameLines() []string {
	var list []string
	for _, shape := range []string{"1 1 10 0", "1 1 12 1", "33 17 10 0", "20 18 12 1", "64 64 10 0", "16 64 12 0", "63 1 10 1"} {
		list = append(list, "flat a "+shape+" 1023", "ramp a "+shape+" 3 7", "noise a "+shape+" 1", "noise n "+shape+" 2\nramp r "+shape+" 9 4\nmix a r n 1 40")
	}
	return list
}

// T1, T2: whatever frame by whatever configuration: decoded within the tolerance of the rung that was told, all slices sound; coded again the same record, in every later generation.
func TestT1T2ToleranceAndAgain(t *testing.T) {
	for _, frame := range frameLines() {
		alpha := strings.HasSuffix(strings.Join(strings.Fields(frame)[:6], " "), " 1")
		for i, rung := range []string{"0,0,0,0", "1,1,1,1", "0,7,2,5", "63,63,63,63"} {
			if !alpha {
				rung = rung[:strings.LastIndex(rung, ",")] + ",0"
			}
			d := newDesk(t)
			play(t, d, frame)
			says(t, d, fmt.Sprintf("config %d %d 0 %d %s", 16+2*i, 32-i, i, rung), "ok")
			coded, record := does(t, d, "code x a"), does(t, d, "render 1 a")
			if !strings.HasSuffix(coded, " step 0 rung "+rung) {
				t.Fatal(coded)
			}
			sound := does(t, d, "look b x")
			if strings.Trim(sound[strings.Index(sound, "marks ")+6:], "0") != "" {
				t.Fatal(sound)
			}
			within(t, frame, does(t, d, "apart a b"), rung)
			if i == 0 {
				says(t, d, "pack b planar", does(t, d, "pack a planar"))
			}
			// The next generations.
			says(t, d, "render 3 b", record)
			says(t, d, "config 32 32 0 0 5,5,5,0", "ok")
			for range 3 {
				says(t, d, "again y x", coded)
				says(t, d, "head y", does(t, d, "head x"))
				says(t, d, "look c y", sound)
				says(t, d, "apart b c", "0,0,0,0")
				says(t, d, "again x y", coded)
			}
		}
	}
}

// T3: the first rung whose record keeps to the cap; if there is none, ErrCap, and nothing else.
func TestT3TheLadder(t *testing.T) {
	d := newDesk(t)
	rungs := []string{"0,0,0,0", "2,1,3,0", "1,1,1,0", "20,9,9,0", "8,8,8,0"}
	play(t, d, "noise n 40 30 10 0 3\nramp r 40 30 10 0 2 5\nmix a r n 1 30")
	var lengths []int
	for _, rung := range rungs {
		play(t, d, "config 16 16 0 1 "+rung)
		lengths = append(lengths, num(lengthOf(does(t, d, "code x a"))))
	}
	for _, length := range lengths {
		for _, most := range []int{length - 1, length, length + 1, 999999999} {
			play(t, d, fmt.Sprintf("config 16 16 %d 1 %s", most, strings.Join(rungs, " ")))
			step := slices.IndexFunc(lengths, func(n int) bool { return n <= most })
			if step < 0 {
				refuses(t, d, "code y a", api.ErrCap)
				refuses(t, d, "head y", api.ErrDeskName)
				continue
			}
			says(t, d, "code x a", fmt.Sprintf("record %d step %d rung %s", lengths[step], step, rungs[step]))
		}
	}
}

// flipped are so many bytes of a record's, each of them another one, as hex.
func flipped(b []byte, at, n int) string {
	other := slices.Clone(b[at : at+n])
	for i := range other {
		other[i] ^= byte(1 + 37*i)
	}
	return fmt.Sprintf("%x", other)
}

// spoilable is a record of `ramp a 20 18 10 0 3 7` by slices of 16 by 16 and a rung of noughts, with its table.
func spoilable(t *testing.T, parity int) (string, []byte, []api.Entry) {
	t.Helper()
	f, _ := made("ramp", strings.Fields("20 18 10 0 3 7"))
	x, e := picture.Encode(f, api.Config{SliceW: 16, SliceH: 16, Ladder: []api.Rung{{}}, Parity: parity})
	if e != api.OK {
		t.Fatal(e)
	}
	return fmt.Sprintf("ramp a 20 18 10 0 3 7\nconfig 16 16 0 %d 0,0,0,0", parity), x.Bytes, entries(t, parity)
}

// T4: what is written over within one payload leaves all other slices as they were; up to four bytes side by side are always told.
func TestT4SlicesApart(t *testing.T) {
	lines, record, list := spoilable(t, 0)
	rects := []string{"0 0 16 16", "16 0 4 16", "0 16 16 2", "16 16 4 2"}
	d := newDesk(t)
	play(t, d, lines)
	for k := range list {
		for at := list[k].At; at < list[k].At+list[k].Length; at++ {
			n := min(1+at%4, list[k].At+list[k].Length-at)
			play(t, d, fmt.Sprintf("code x a\nspoil x %d %s", at, flipped(record, at, n)))
			marks := "0000"
			says(t, d, "look b x", "frame 20 18 10 0 marks "+marks[:k]+"2"+marks[k+1:])
			for i, rect := range rects {
				play(t, d, "part p a "+rect+"\npart q b "+rect)
				if i == k {
					says(t, d, fmt.Sprint("slice x ", k), "marks 2 sums 0 0 0")
					says(t, d, "region q x "+rect, does(t, d, "flat q "+strings.Join(strings.Fields(rect)[2:], " ")+" 10 0 0")+" marks 2")
					continue
				}
				says(t, d, "apart p q", "0,0,0,0")
			}
		}
	}
}

// T5: of a record with p parity rows any p of payloads and rows may be spoilt, and each slice comes back; of one more none does.
func TestT5Mended(t *testing.T) {
	for parity := 1; parity <= 3; parity++ {
		lines, record, list := spoilable(t, parity)
		d := newDesk(t)
		play(t, d, lines)
		for set := range 1 << len(list) {
			play(t, d, "code x a")
			marks, spoilt := "", 0
			for k, entry := range list {
				mark := "0"
				if set>>k&1 == 1 {
					at := entry.At + set%entry.Length
					does(t, d, fmt.Sprintf("spoil x %d %s", at, flipped(record, at, 1)))
					mark = "1"
					spoilt++
				}
				if k < 4 {
					marks += mark
				}
			}
			if spoilt > parity {
				marks = strings.ReplaceAll(marks, "1", "2")
			}
			says(t, d, "look b x", "frame 20 18 10 0 marks "+marks)
			if !strings.Contains(marks, "2") {
				says(t, d, "apart a b", "0,0,0,0")
				says(t, d, "again y x", does(t, d, "code z a"))
			}
		}
	}
}

// T6: whatever bytes: looking at them ends with a named error, or with a frame that may be.
func TestT6Metered(t *testing.T) {
	c := chance(2206)
	_, record, _ := spoilable(t, 1)
	seen := map[api.Errno]int{}
	for range 3000 {
		d := newDesk(t)
		play(t, d, "ramp a 20 18 10 0 3 7\nconfig 16 16 0 1 0,0,0,0\ncode x a")
		for range 1 + c.below(3) {
			at := c.below(of(&c, len(record), 84)) - 1
			says(t, d, fmt.Sprintf("spoil x %d %02x", max(at, 0), c.below(256)), "ok")
		}
		s, e := d.Do("look b x")
		seen[e]++
		switch e {
		case api.OK:
			if !strings.HasPrefix(s, "frame 20 18 10 0 marks ") {
				t.Fatal(s)
			}
			does(t, d, "pack b planar")
			does(t, d, "code y b")
		case api.ErrPictureHead, api.ErrPictureTable, api.ErrPictureLength:
			refuses(t, d, "show b 0 0 0 1 1", api.ErrDeskName)
		default:
			t.Fatal(e)
		}
	}
	if seen[api.OK] < 100 || seen[api.ErrPictureHead] < 100 || seen[api.ErrPictureTable] < 100 {
		t.Error("hardly any of a sort", seen)
	}
}

// huge is the record of a flat frame of 4096 by 512, as picture writes it down, in few bytes.
func huge(t *testing.T) []byte {
	t.Helper()
	var payload []byte
	for _, w := range []int{4096, 2048, 2048} {
		b, e := slice.Encode(api.Block{W: w, H: 512, Samples: slices.Repeat([]uint16{7}, w*512)}, 10, 0)
		if e != api.OK {
			t.Fatal(e)
		}
		payload = append(append(payload, 0, 0, byte(len(b))), b...)
	}
	x, e := picture.Assemble(api.Shape{Width: 4096, Height: 512, Depth: 10}, api.Config{SliceW: 4096, SliceH: 4096, Ladder: []api.Rung{{}}}, api.Rung{}, [][]byte{payload})
	if e != api.OK {
		t.Fatal(e)
	}
	return x
}

// T6: a record may speak of a frame as great as may be, in few bytes, written over by hand: it is looked at, and lies on the desk like others.
func TestT6HugeFrames(t *testing.T) {
	record := huge(t)
	d := newDesk(t)
	play(t, d, "noise a 64 64 10 0 1\nmedium m\nrecord m 2 0 T\nwrite m a")
	link := []byte("LINK\x00\x00\x00\x00")
	link = binary.BigEndian.AppendUint32(link, uint32(len(record)))
	link = binary.BigEndian.AppendUint32(link, crc.Sum(link))
	all := append(link, record...)
	for at := 0; at < len(all); at += 80 {
		says(t, d, fmt.Sprintf("over m %d %x", 16+at, all[at:min(at+80, len(all))]), "ok")
	}
	play(t, d, fmt.Sprintf("truncate m %d", 16+len(all)))
	play(t, d, `
open m => frames 1 finished 0 rate 2 start 0 title T
play h m 0 => frame 4096 512 10 0 marks 0
show h 0 4094 510 2 2 => 7 7 / 7 7
part q h 4094 511 2 1 => frame 2 1 10 0
show q 1 0 0 1 1 => 7
dot h 2 2047 511 9 => frame 4096 512 10 0
error h h 2 => 0
goon m
write m a => error 172
config 4096 4096 0 0 0,0,0,0
code x h
look h x => frame 4096 512 10 0 marks 0
show h 2 2046 510 2 2 => 7 7 / 7 9
slice x 0 => marks 0 sums 14680064 7340032 7340034
region q x 4094 510 2 2 => frame 2 2 10 0 marks 0
show q 2 0 0 1 2 => 7 / 9
remake n m => 1 frames
write m h
list l list 25 "t"
list l cut m 00:00:00:00 00:00:00:01
list l fade 1 m 00:00:00:01 00:00:00:02
build o l => frames 1 copied 0 mixed 1
play q o 0 => frame 4096 512 10 0 marks 0
show q 2 2046 510 2 2 => 7 7 / 7 8`)
}

// smallReel are lines of a reel of three small frames, finished, on a medium m.
const smallReel = "flat a 4 2 10 0 5\nramp b 4 2 10 0 3 7\nnoise c 4 2 10 0 9\nconfig 16 16 0 0 0,0,0,0\nmedium m\nrecord m 2 0 T\nwrite m a\nwrite m b\nwrite m c\nfinish m"

// ends are the places behind the label, and behind each record.
func ends(t *testing.T, d *desk.Desk) []int {
	t.Helper()
	list := []int{16}
	for _, name := range []string{"a", "b", "c"} {
		list = append(list, list[len(list)-1]+16+num(lengthOf(does(t, d, "code x "+name))))
	}
	return list
}

// T8: a reel that is cut off, at every place, has just the records that lie whole ahead of the cut; gone on with, it is the reel that there would have been.
func TestT8CutOff(t *testing.T) {
	whole := newDesk(t)
	play(t, whole, smallReel)
	all, places := bytesOf(t, whole, "m"), ends(t, whole)
	for at := 0; at <= len(all); at++ {
		d := newDesk(t)
		play(t, d, smallReel)
		says(t, d, fmt.Sprint("truncate m ", at), "ok")
		if at < 16 {
			for _, line := range []string{"open m", "goon m", "play f m 0", "remake n m"} {
				refuses(t, d, line, api.ErrReelNone)
			}
			continue
		}
		count := 0
		for count < 3 && places[count+1] <= at {
			count++
		}
		done := 0
		if at == len(all) {
			done = 1
		}
		says(t, d, "open m", fmt.Sprintf("frames %d finished %d rate 2 start 0 title T", count, done))
		for i, name := range []string{"a", "b", "c"}[:count] {
			says(t, d, fmt.Sprint("play f m ", i), "frame 4 2 10 0 marks 0")
			says(t, d, "apart f "+name, "0,0,0,0")
		}
		refuses(t, d, fmt.Sprint("play f m ", count), api.ErrSessionSeek)
		if done == 1 {
			refuses(t, d, "goon m", api.ErrReelDone)
			continue
		}
		says(t, d, "goon m", "ok")
		for _, name := range []string{"a", "b", "c"}[count:] {
			does(t, d, "write m "+name)
		}
		says(t, d, "finish m", "ok")
		if !bytes.Equal(bytesOf(t, d, "m"), all) {
			t.Fatal("other bytes behind", at)
		}
	}
}

// T9: a byte that is another one, at every place of a reel, frees what it lies in, and nothing else.
func TestT9TheCone(t *testing.T) {
	whole := newDesk(t)
	play(t, whole, smallReel)
	all, places := bytesOf(t, whole, "m"), ends(t, whole)
	for at := range all {
		d := newDesk(t)
		play(t, d, smallReel)
		says(t, d, fmt.Sprintf("over m %d %02x", at, all[at]^byte(1+at%255)), "ok")
		if at < 16 {
			refuses(t, d, "open m", api.ErrReelNone)
			continue
		}
		// Which record, or 3, and how far within: in its link, its head, its table, its payload.
		k := 0
		for k < 3 && places[k+1] <= at {
			k++
		}
		in := at - places[k]
		count, done := 3, 1
		if k == 3 {
			done = 0
		} else if in < 16 {
			count, done = k, 0
		}
		says(t, d, "open m", fmt.Sprintf("frames %d finished %d rate 2 start 0 title T", count, done))
		for i, name := range []string{"a", "b", "c"}[:count] {
			line := fmt.Sprint("play f m ", i)
			switch {
			case i != k:
				says(t, d, line, "frame 4 2 10 0 marks 0")
				says(t, d, "apart f "+name, "0,0,0,0")
			case in < 48:
				refuses(t, d, line, api.ErrPictureHead)
			case in < 60:
				refuses(t, d, line, api.ErrPictureTable)
			default:
				says(t, d, line, "frame 4 2 10 0 marks 2")
			}
		}
	}
}

// T10: a finished reel, made again, is the same bytes, by whatever configurations its frames were written; so is one that was gone on with.
func TestT10MadeAgain(t *testing.T) {
	d := newDesk(t)
	play(t, d, "noise a 40 30 12 1 4\nramp b 40 30 12 1 4 9\nflat c 40 30 12 1 4000\nmedium m\nrecord m 6 123 Day One")
	for _, config := range []string{"16 16 0 0 0,0,0,0", "32 16 0 3 1,2,3,4", "64 64 2000 1 0,0,0,0 9,9,9,9 63,63,63,63", "40 30 0 16 7,7,7,7"} {
		play(t, d, "config "+config)
		for _, name := range strings.Fields("a b c") {
			if s, e := d.Do("write m " + name); e != api.OK && e != api.ErrCap {
				t.Fatal(s, e)
			}
		}
		play(t, d, "die m 1 50\nwrite m c => error 152\nrevive m\ngoon m")
	}
	play(t, d, "write m c\nfinish m\nconfig 16 16 0 0 0,0,0,0\nremake n m\nremake o n")
	says(t, d, "size n", does(t, d, "size m"))
	if !bytes.Equal(bytesOf(t, d, "m"), bytesOf(t, d, "n")) || !bytes.Equal(bytesOf(t, d, "m"), bytesOf(t, d, "o")) {
		t.Error("other bytes")
	}
}

// T7: looking at a slice of a record on a reel reads its head, its table and its payload, and nothing else.
func TestT7ReadInPart(t *testing.T) {
	d := newDesk(t)
	lines, _, list := spoilable(t, 2)
	play(t, d, lines+"\nmedium m\nrecord m 2 0 T")
	at := 16
	var places []int
	for range 4 {
		places = append(places, at+16)
		at += 16 + num(strings.Fields(does(t, d, "write m a"))[4])
	}
	for i, place := range places {
		for k, entry := range list[:4] {
			says(t, d, fmt.Sprintf("reads m %d %d", i, k), fmt.Sprintf("reads %d+32 %d+44 %d+%d", place, place+32, place+entry.At, entry.Length))
		}
	}
}

// T11: a reel by a cutting list has the records of its reels as they are, and frames that are mixed within the rung's tolerance.
func TestT11Cutting(t *testing.T) {
	d := newDesk(t)
	play(t, d, "config 16 16 0 1 1,0,2,0\nmedium p\nmedium q\nrecord p 2 100 P\nrecord q 2 0 Q")
	for i := range 6 {
		play(t, d, fmt.Sprintf("ramp a 20 18 10 0 %d 9\nwrite p a\nnoise a 20 18 10 0 %d\nwrite q a", i, i))
	}
	play(t, d, "finish p\nlist l list 25 \"T\"\nlist l cut p 00:00:04:01 00:00:04:05\nlist l fade 2 q 00:00:00:00 00:00:00:05 \"note\"\nlist l fade 3 p 00:00:04:00 00:00:04:03\nlist l cut q 00:00:00:05 00:00:00:06")
	says(t, d, "print l", `list 25 "T"|cut p 00:00:04:01 00:00:04:05|fade 2 q 00:00:00:00 00:00:00:05 "note"|fade 3 p 00:00:04:00 00:00:04:03|cut q 00:00:00:05 00:00:00:06|`)
	play(t, d, "config 16 18 0 0 3,2,1,0\nbuild o l => frames 8 copied 3 mixed 5\nopen o => frames 8 finished 1 rate 2 start 0 title T")
	for i, x := range []struct{ one, other, parts string }{
		{one: "p 1"}, {one: "p 2"}, {"p 3", "q 0", "1 3"}, {"p 4", "q 1", "2 3"}, {"q 2", "p 0", "1 4"}, {"q 3", "p 1", "2 4"}, {"q 4", "p 2", "3 4"}, {one: "q 5"},
	} {
		does(t, d, "play one "+x.one)
		if x.other == "" {
			says(t, d, fmt.Sprint("play new o ", i), "frame 20 18 10 0 marks 0000")
			says(t, d, "apart new one", "0,0,0,0")
			continue
		}
		says(t, d, fmt.Sprint("play new o ", i), "frame 20 18 10 0 marks 00")
		play(t, d, "play two "+x.other+"\nmix three one two "+x.parts)
		within(t, x.one, does(t, d, "apart new three"), "3,2,1,0")
		if does(t, d, "apart one two") == "0,0,0,0" {
			t.Fatal("the test is none")
		}
	}
}
