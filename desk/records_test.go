package desk_test

import (
	"fmt"
	"slices"
	"strings"
	"testing"

	"dailies/api"
	"dailies/picture"
	"dailies/plane"
)

// DOC.md, the first four of the ten examples of the whole: records, looked at, spoilt and mended.
func TestTheWholeByRecords(t *testing.T) {
	play(t, newDesk(t), `
config 16 16 0 0 0,0,0,0 => ok
flat a 16 16 10 0 512 => frame 16 16 10 0
ramp r 48 32 10 0 3 7 => frame 48 32 10 0
code x a => record 66 step 0 rung 0,0,0,0
code y r => record 1062 step 0 rung 0,0,0,0
look b y => frame 48 32 10 0 marks 000000
apart r b => 0,0,0,0
again z y => record 1062 step 0 rung 0,0,0,0
spoil y 100 ff00ff00 => ok
look c y => frame 48 32 10 0 marks 200000
show c 0 0 0 16 1 => 0 0 0 0 0 0 0 0 0 0 0 0 0 0 0 0
show c 0 16 0 4 1 => 48 51 54 57
config 16 16 0 2 1,1,1,0 => ok
code p r => record 1209 step 0 rung 1,1,1,0
spoil p 140 00000000 => ok
look e p => frame 48 32 10 0 marks 100000
head x => 16 16 10 0 slices 1 parity 0 rung 0,0,0,0 length 66
head p => 48 32 10 0 slices 6 parity 2 rung 1,1,1,0 length 1209
slice x 0 => marks 0 sums 131072 65536 65536`)
}

// config: at first slices of 32 by 32, one rung of noughts, no cap, no parity.
func TestConfigAtFirst(t *testing.T) {
	d := newDesk(t)
	play(t, d, "ramp a 33 32 10 0 3 7\nnoise b 64 64 12 1 9\ncode y b")
	says(t, d, "head y", "64 64 12 1 slices 4 parity 0 rung 0,0,0,0 length "+lengthOf(does(t, d, "code x b")))
	says(t, d, "head x", does(t, d, "head y"))
	says(t, d, "code x a", "record "+lengthOf(does(t, d, "code x a"))+" step 0 rung 0,0,0,0")
	if s := does(t, d, "head x"); !strings.HasPrefix(s, "33 32 10 0 slices 2 parity 0 ") {
		t.Error(s)
	}
	want := does(t, d, "render 1 a b")
	play(t, d, "config 32 32 0 0 0,0,0,0 => ok\nrender 1 a b => "+want)
	play(t, d, "config 32 32 0 1 0,0,0,0 => ok")
	if does(t, d, "render 1 a b") == want {
		t.Error("the same records by another configuration")
	}
}

// lengthOf is how many bytes a record has, as CODED tells it.
func lengthOf(coded string) string { return strings.Fields(coded)[1] }

// config: it takes whatever has its form; whether it may be is told where a frame is coded.
func TestConfig(t *testing.T) {
	d := newDesk(t)
	play(t, d, "flat a 20 18 10 0 7\nflat b 20 18 10 1 7\nmedium m\nrecord m 2 0 T")
	for _, x := range []struct {
		config string
		alpha  bool // it may be for a frame with alpha, and for no other one
	}{
		{config: "15 16 0 0 0,0,0,0"}, {config: "17 16 0 0 0,0,0,0"}, {config: "14 16 0 0 0,0,0,0"}, {config: "16 15 0 0 0,0,0,0"},
		{config: "4098 16 0 0 0,0,0,0"}, {config: "16 4097 0 0 0,0,0,0"}, {config: "0 0 0 0 0,0,0,0"},
		{config: "16 16 0 17 0,0,0,0"}, {config: "16 16 0 999999999 0,0,0,0"}, {config: "16 16 0 0 64,0,0,0"},
		{config: "16 16 0 0 0,0,0,0 0,0,64,0"}, {config: "16 16 0 0 0,0,0,1", alpha: true}, {config: "16 16 0 0 0,0,0,0 63,63,63,63", alpha: true},
	} {
		says(t, d, "config "+x.config, "ok")
		refuses(t, d, "code x a", api.ErrPictureConfig)
		refuses(t, d, "write m a", api.ErrPictureConfig)
		refuses(t, d, "render 1 a", api.ErrPictureConfig)
		if x.alpha {
			does(t, d, "code y b")
			refuses(t, d, "render 1 b a", api.ErrPictureConfig)
			continue
		}
		refuses(t, d, "code x b", api.ErrPictureConfig)
	}
	for _, config := range []string{"16 16 0 0 0,0,0,0", "4096 4096 0 16 63,63,63,0", "16 17 999999999 1 1,2,3,0 0,0,0,0", "18 4096 0 0 63,0,63,0"} {
		says(t, d, "config "+config, "ok")
		does(t, d, "code x a")
		does(t, d, "write m a")
		does(t, d, "render 2 a b")
	}
}

// code: by the first rung that keeps to the cap; else ErrCap, and what was there is there.
func TestCode(t *testing.T) {
	d := newDesk(t)
	play(t, d, "noise n 48 32 10 0 3\nflat f 48 32 10 0 500\nmix a f n 1 20\nnoise n 20 18 12 1 3\nflat f 20 18 12 1 500\nmix b f n 1 50\nflat c 48 32 10 0 100")
	for _, name := range []string{"a", "b"} {
		for step, rung := range []string{"0,0,0,0", "1,2,0,0", "3,3,3,0", "9,9,9,0"} {
			says(t, d, "config 16 16 0 1 "+rung, "ok")
			length := lengthOf(does(t, d, "code x "+name))
			says(t, d, "code x "+name, fmt.Sprintf("record %s step 0 rung %s", length, rung))
			says(t, d, "config 16 16 "+length+" 1 0,0,0,0 1,2,0,0 3,3,3,0 9,9,9,0", "ok")
			says(t, d, "code x "+name, fmt.Sprintf("record %s step %d rung %s", length, step, rung))
			says(t, d, fmt.Sprintf("config 16 16 %d 1 0,0,0,0 1,2,0,0 3,3,3,0 9,9,9,0", num(length)-1), "ok")
			if step < 3 {
				if s := does(t, d, "code x "+name); !strings.Contains(s, fmt.Sprint("step ", step+1)) {
					t.Fatal(s)
				}
				continue
			}
			refuses(t, d, "code x "+name, api.ErrCap)
			refuses(t, d, "code y "+name, api.ErrCap)
			// The one ahead of that is still there.
			says(t, d, "look y x", does(t, d, "look y x"))
			refuses(t, d, "head y", api.ErrDeskName)
		}
	}
	play(t, d, "config 16 16 0 0 0,0,0,0\ncode x c => record 300 step 0 rung 0,0,0,0\nconfig 16 16 299 0 0,0,0,0\ncode x a => error 122\nhead x => 48 32 10 0 slices 6 parity 0 rung 0,0,0,0 length 300")
}

// head: what the record's head says.
func TestHead(t *testing.T) {
	d := newDesk(t)
	play(t, d, `
flat a 3 5 12 1 4000
config 16 18 0 3 1,2,3,4
code x a
config 4096 4096 0 0 63,0,63,0
flat b 64 64 10 0 5
code y b`)
	says(t, d, "head x", "3 5 12 1 slices 1 parity 3 rung 1,2,3,4 length "+lengthOf(does(t, d, "again q x")))
	says(t, d, "head y", "64 64 10 0 slices 1 parity 0 rung 63,0,63,0 length "+lengthOf(does(t, d, "again q y")))
	for at := range 32 {
		play(t, d, fmt.Sprintf("code y b\nspoil y %d aa", at))
		refuses(t, d, "head y", api.ErrPictureHead)
		refuses(t, d, "look c y", api.ErrPictureHead)
		refuses(t, d, "slice y 0", api.ErrPictureHead)
		refuses(t, d, "region c y 0 0 2 2", api.ErrPictureHead)
		refuses(t, d, "again c y", api.ErrPictureHead)
	}
	says(t, d, "names", "frames a b; records q x y; media; lists")
}

// the record that `config 16 16 0 P` and a rung of noughts make of `ramp a 20 18 10 0 3 7`: where its payloads and parity rows lie.
func entries(t *testing.T, parity int) []api.Entry {
	t.Helper()
	f, e := made("ramp", strings.Fields("20 18 10 0 3 7"))
	if e != api.OK {
		t.Fatal(e)
	}
	x, e := picture.Encode(f, api.Config{SliceW: 16, SliceH: 16, Ladder: []api.Rung{{}}, Parity: parity})
	if e != api.OK {
		t.Fatal(e)
	}
	h, _ := picture.Head(x.Bytes)
	list, e := picture.Table(h, x.Bytes[32:])
	if e != api.OK || len(list) != 4+parity {
		t.Fatal(list, e)
	}
	return list
}

// look, slice, region: sound, mended, lost; a slice that is lost is noughts.
func TestLooks(t *testing.T) {
	lost := entries(t, 0)
	mended := entries(t, 1)
	d := newDesk(t)
	play(t, d, "ramp a 20 18 10 0 3 7\nconfig 16 16 0 0 0,0,0,0")
	marks := func(k int, mark string) string { return strings.Repeat("0", k) + mark + strings.Repeat("0", 3-k) }
	for k := range 4 {
		play(t, d, fmt.Sprintf(`
config 16 16 0 0 0,0,0,0
code x a
slice x %[1]d
spoil x %[2]d aabb
look b x => frame 20 18 10 0 marks %[3]s
slice x %[1]d => marks 2 sums 0 0 0
region b x 0 0 20 18 => frame 20 18 10 0 marks %[3]s
config 16 16 0 1 0,0,0,0
code x a
spoil x %[4]d aabb
look c x => frame 20 18 10 0 marks %[5]s
apart a c => 0,0,0,0
region c x 0 0 20 18 => frame 20 18 10 0 marks %[5]s
apart a c => 0,0,0,0`, k, lost[k].At+5, marks(k, "2"), mended[k].At+5, marks(k, "1")))
		for i := range 4 {
			x := does(t, d, fmt.Sprint("slice x ", i))
			if strings.HasPrefix(x, "marks 1 sums ") != (i == k) || !strings.HasPrefix(x, "marks 1") && !strings.HasPrefix(x, "marks 0 sums ") {
				t.Fatal(k, i, x)
			}
		}
		// Both of two that are spoilt are more than one parity row mends.
		play(t, d, fmt.Sprintf("spoil x %d 0102030405", mended[(k+1)%4].At+3))
		if s := does(t, d, "look c x"); strings.Count(s[len("frame 20 18 10 0 marks "):], "2") != 2 {
			t.Fatal(s)
		}
	}
	play(t, d, `
code x a
slice x 0 => marks 0 sums 19200 8192 8320
slice x 3 => marks 0 sums 1344 568 572
slice x 4 => error 131
slice x 999999999 => error 131
region b x 1 0 2 2 => error 132
region b x 0 0 3 2 => error 132
region b x 0 0 0 2 => error 132
region b x 0 17 2 2 => error 132
region b x 20 0 2 2 => error 132
region b x 14 15 6 3 => frame 6 3 10 0 marks 0000
show b 0 0 0 6 1 => 147 150 153 156 159 162
region b x 16 0 4 2 => frame 4 2 10 0 marks 0
region b x 0 14 2 4 => frame 2 4 10 0 marks 00
region b b 0 0 2 2 => error 222
look b b => error 222
region q x 0 0 2 2 => frame 2 2 10 0 marks 0
look r x => frame 20 18 10 0 marks 0000
names => frames a b c q r; records x; media; lists`)
}

// slice: the sums of all blocks, of alpha too.
func TestSliceSums(t *testing.T) {
	play(t, newDesk(t), `
flat a 3 2 12 1 4095
dot a 3 2 1 5
dot a 1 1 0 1
config 16 16 0 0 0,0,0,0
code x a
slice x 0 => marks 0 sums 24570 12286 16380 20480
flat b 1 1 10 0 0
code y b
slice y 0 => marks 0 sums 0 0 0`)
}

// again: the frame of a record, coded by the record's own slices, rung and parity, whatever the configuration is; also of one that has lost a slice.
func TestAgain(t *testing.T) {
	d := newDesk(t)
	play(t, d, `
noise a 20 18 10 1 77
config 16 18 0 2 3,1,2,5
code x a`)
	coded := does(t, d, "code x a")
	for _, config := range []string{"32 32 0 0 0,0,0,0", "15 0 0 0 0,0,0,0", "16 16 1 0 0,0,0,0", "64 64 0 16 63,63,63,63"} {
		play(t, d, "config "+config)
		says(t, d, "again y x", coded)
		says(t, d, "head y", does(t, d, "head x"))
		says(t, d, "again y y", coded)
		says(t, d, "again x x", coded)
	}
	lost := entries(t, 0)
	play(t, d, fmt.Sprintf("ramp a 20 18 10 0 3 7\nconfig 16 16 0 0 0,0,0,0\ncode x a\nspoil x %d ffff\nagain y x\nlook b x => frame 20 18 10 0 marks 0020\nlook c y => frame 20 18 10 0 marks 0000\napart b c => 0,0,0,0", lost[2].At+4))
	refuses(t, d, "again y nobody", api.ErrDeskName)
}

// spoil: the record's bytes from a place on, up to its last one.
func TestSpoil(t *testing.T) {
	d := newDesk(t)
	play(t, d, "flat a 16 16 10 0 512\nconfig 16 16 0 0 0,0,0,0\ncode x a => record 66 step 0 rung 0,0,0,0\nflat c 16 16 10 0 10\ncode y c")
	for _, line := range []string{"spoil x 66 00", "spoil x 65 0000", "spoil x 67 00", "spoil x 999999999 ff", "spoil x 0 " + strings.Repeat("00", 67), "spoil x 1 " + strings.Repeat("00", 66)} {
		refuses(t, d, line, api.ErrMediumRange)
		says(t, d, "look b x", "frame 16 16 10 0 marks 0")
	}
	play(t, d, `
spoil x 65 aa => ok
look b x => frame 16 16 10 0 marks 2
head x => 16 16 10 0 slices 1 parity 0 rung 0,0,0,0 length 66
spoil x 64 0000 => ok
spoil x 0 `+strings.Repeat("0f", 66)+` => ok
head x => error 123
look b y => frame 16 16 10 0 marks 0
spoil y 33 01 => ok
look b y => error 124
spoil y 33 00 => ok
look b y => frame 16 16 10 0 marks 0
spoil nobody 0 00 => error 222`)
	// A record of other bytes, none of which stays.
	x, e := picture.Encode(frameOf(t, api.Shape{Width: 16, Height: 16, Depth: 10}, 9), api.Config{SliceW: 16, SliceH: 16, Ladder: []api.Rung{{}}})
	if e != api.OK || len(x.Bytes) != num(lengthOf(does(t, d, "again w y"))) {
		t.Fatal(len(x.Bytes), e)
	}
	says(t, d, fmt.Sprintf("spoil y 0 %x", x.Bytes), "ok")
	play(t, d, "look b y => frame 16 16 10 0 marks 0\nshow b 0 15 15 1 1 => 9\nlook c x => error 123\nlook b x => error 123\nshow b 0 0 0 1 1 => 9")
}

// frameOf is a frame all of whose samples are one.
func frameOf(t *testing.T, s api.Shape, v uint16) api.Frame {
	t.Helper()
	f, e := plane.New(s)
	if e != api.OK {
		t.Fatal(e)
	}
	for _, samples := range f.Planes {
		copy(samples, slices.Repeat([]uint16{v}, len(samples)))
	}
	return f
}

// Records and frames are the desk's own: what becomes of one has no part in another.
func TestThingsApart(t *testing.T) {
	d := newDesk(t)
	play(t, d, `
ramp a 20 18 10 0 3 7
config 16 16 0 0 0,0,0,0
code x a
again y x
look b x
dot a 0 0 0 9
show b 0 0 0 2 1 => 0 3
look c x
show c 0 0 0 2 1 => 0 3
dot b 0 0 0 8
show c 0 0 0 2 1 => 0 3
spoil x 150 ffffffff
look d y => frame 20 18 10 0 marks 0000
part e c 0 0 20 18
dot e 0 1 0 7
show c 0 0 0 2 1 => 0 3
mix f c c 0 1
dot f 0 1 0 6
show c 0 0 0 2 1 => 0 3
code x c
look d y => frame 20 18 10 0 marks 0000`)
}
