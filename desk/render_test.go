package desk_test

import (
	"fmt"
	"strings"
	"testing"
)

// DOC.md, examples 9 and 10 of the whole.
func TestTheWholeByHands(t *testing.T) {
	play(t, newDesk(t), `
config 16 16 0 0 0,0,0,0
ramp r 48 32 10 0 3 7
flat d 48 32 10 0 100
flat a 16 16 10 0 512
render 3 r d:2 a:5 => 1062:527d3982 300:8d81850a 0:00000000
name 4 1800 => 00:01:00;02
number 4 00:10:00;00 => 17982
convert 1 2 48 => 50`)
}

// render: the records of frames by workers whose tries fail; as many as fail five times or more, and those that no rung keeps to the cap, are empty.
func TestRender(t *testing.T) {
	play(t, newDesk(t), `
config 16 16 0 0 0,0,0,0
ramp r 48 32 10 0 3 7
flat d 48 32 10 0 100
render 1 r => 1062:527d3982
render 16 r => 1062:527d3982
render 0 r => error 211
render 17 r => error 211
render 999999999 r => error 211
render 2 r:0 d:4 r:1 => 1062:527d3982 300:8d81850a 1062:527d3982
render 2 r:5 d:6 r:999999999 => 0:00000000 0:00000000 0:00000000
render 2 d d d:5 d => 300:8d81850a 300:8d81850a 0:00000000 300:8d81850a
config 16 16 1000 0 0,0,0,0
render 2 d r d => 300:8d81850a 0:00000000 300:8d81850a
config 15 16 1000 0 0,0,0,0
render 2 d r d => error 121
render 0 d r d => error 211
render 2 d nobody => error 222
render 0 nobody:5 => error 222
render 2 => error 221
names => frames d r; records; media; lists`)
}

// T12: any number of workers, whichever of them fail, make the records that one hand makes.
func TestT12Hands(t *testing.T) {
	d := newDesk(t)
	frames := strings.Fields("a b c d e f g h")
	play(t, d, "config 16 16 0 1 1,2,3,0 9,9,9,0")
	var records []string
	for i, name := range frames {
		play(t, d, fmt.Sprintf("noise %s %d 18 10 %d %d\ncode x %s", name, 16+i, i%2, i, name))
		records = append(records, does(t, d, "render 1 "+name))
		if want := lengthOf(does(t, d, "code x "+name)) + ":"; !strings.HasPrefix(records[i], want) {
			t.Fatal(records[i], want)
		}
	}
	c := chance(2212)
	for workers := 1; workers <= 16; workers++ {
		for range 5 {
			line, want := fmt.Sprint("render ", workers), ""
			for range 1 + c.below(16) {
				i, fails := c.below(8), c.below(7)
				if s := fmt.Sprintf("%s %s:%d", line, frames[i], fails); len(s) > 200 {
					break
				} else {
					line = s
				}
				record := records[i]
				if fails >= 5 {
					record = "0:00000000"
				}
				want += " " + record
			}
			says(t, d, line, want[1:])
		}
	}
}

// name, number, convert: what timecode answers; a name that is none is told with its place.
func TestTimecode(t *testing.T) {
	play(t, newDesk(t), `
name 2 25 => 00:00:01:00
name 2 91532 => 01:01:01:07
name 4 1799 => 00:00:59;29
name 7 3600 => 00:01:00;04
name 1 0 => 00:00:00:00
name 2 2159999 => 23:59:59:24
name 2 2160000 => error 184
name 0 0 => error 181
name 8 0 => error 181
name 0 2160000 => error 181
number 2 01:01:01:07 => 91532
number 4 00:01:00;02 => 1800
number 4 00:00:00;00 => 0
number 4 00:01:00;01 => fault 183 at 9
number 4 00:01:00:02 => fault 182 at 8
number 4 00:1 => fault 182 at 4
number 4 24:00:00;00 => fault 184 at 0
number 4 00:60:00;00 => fault 182 at 3
number 2 00:00:00:25 => fault 182 at 9
number 2 00:00:00:000 => fault 182 at 11
number 2 x => fault 182 at 0
number 0 00:00:00:00 => fault 181 at 0
number 9 x => fault 181 at 0
number 2 00:00: 00:00 => error 221
convert 1 4 24 => 29
convert 1 4 2073599 => error 184
convert 1 2 2073600 => error 184
convert 0 2 0 => error 181
convert 2 8 0 => error 181
convert 2 8 2160000 => error 181
convert 2 2 2159999 => 2159999
convert 3 4 1 => 0
convert 4 3 30000 => 30030`)
}
