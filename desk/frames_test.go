package desk_test

import (
	"fmt"
	"strings"
	"testing"

	"dailies/api"
)

// planes are all samples of a frame, by show.
func planes(s api.Shape, name string) []string {
	half := (s.Width + 1) / 2
	lines := []string{
		fmt.Sprintf("show %s 0 0 0 %d %d", name, s.Width, s.Height),
		fmt.Sprintf("show %s 1 0 0 %d %d", name, half, s.Height),
		fmt.Sprintf("show %s 2 0 0 %d %d", name, half, s.Height),
	}
	if s.Alpha {
		lines = append(lines, fmt.Sprintf("show %s 3 0 0 %d %d", name, s.Width, s.Height))
	}
	return lines
}

// Examples 1 to 5 of the chapter.
func TestExamples(t *testing.T) {
	play(t, newDesk(t), `
flat a 8 4 10 0 7 => frame 8 4 10 0
show a 0 0 0 3 2 => 7 7 7 / 7 7 7
flat a 8 4 10 0 1024 => error 64
flat A 8 4 10 0 7 => error 221
show b 0 0 0 1 1 => error 222
ramp r 4 2 10 0 3 100 => frame 4 2 10 0
show r 1 0 0 2 2 => 1 4 / 101 104
code x a
look b x => frame 8 4 10 0 marks 0
apart a b => 0,0,0,0
error a b 0 => 0
medium m => ok
record m 2 0 Day One => ok
write m a
finish m => ok
open m => frames 1 finished 1 rate 2 start 0 title Day One
write m a => error 171
remake n m => 1 frames
number 4 00:01:00;00 => fault 183 at 9`)
}

// flat: all samples V, of all planes; V up to MAX of its depth.
func TestFlat(t *testing.T) {
	d := newDesk(t)
	for _, depth := range []int{10, 12} {
		top := 1<<depth - 1
		for _, v := range []int{0, 1, 511, top - 1, top} {
			for _, alpha := range []int{0, 1} {
				shape := api.Shape{Width: 3, Height: 2, Depth: depth, Alpha: alpha == 1}
				says(t, d, fmt.Sprint("flat a 3 2 ", depth, alpha, " ", v), fmt.Sprint("frame 3 2 ", depth, alpha))
				for p, line := range planes(shape, "a") {
					row := strings.TrimSpace(strings.Repeat(fmt.Sprint(v, " "), []int{3, 2, 2, 3}[p]))
					says(t, d, line, row+" / "+row)
				}
				refuses(t, d, "show a 4 0 0 1 1", api.ErrPlaneRect)
			}
		}
		for _, v := range []int{top + 1, top + 2, 65535, 65536, 65536 + 5, 65536 + top, 1 << 20, 999999999} {
			refuses(t, d, fmt.Sprint("flat a 3 2 ", depth, " 0 ", v), api.ErrPlaneSample)
			refuses(t, d, fmt.Sprint("flat b 3 2 ", depth, " 1 ", v), api.ErrPlaneSample)
		}
		says(t, d, "show a 0 0 0 1 1", fmt.Sprint(top))
	}
	says(t, d, "names", "frames a; records; media; lists")
}

// flat, ramp, noise: a shape that may not be, also beside a sample that may not be; W and H of 64 and 65.
func TestShapes(t *testing.T) {
	d := newDesk(t)
	for _, command := range []string{"flat", "ramp", "noise"} {
		more := map[string]string{"flat": " 5", "ramp": " 5 6", "noise": " 5"}[command]
		for _, shape := range []string{"0 1 10 0", "1 0 10 0", "0 0 10 1", "4 4 0 0", "4 4 8 0", "4 4 9 0", "4 4 11 0", "4 4 13 1", "4 4 16 0", "4 4 64 0", "4 4 999999999 0"} {
			refuses(t, d, command+" a "+shape+more, api.ErrPlaneShape)
			if command == "flat" {
				refuses(t, d, command+" a "+shape+" 9999", api.ErrPlaneShape)
			}
		}
		for _, shape := range []string{"65 1 10 0", "1 65 10 0", "65 65 12 1", "65 0 10 0", "0 65 10 0", "65 4 11 0", "4 4096 10 0", "999999999 1 10 0"} {
			refuses(t, d, command+" a "+shape+more, api.ErrDeskLine)
			if command == "flat" {
				refuses(t, d, command+" a "+shape+" 9999", api.ErrDeskLine)
			}
		}
	}
	says(t, d, "names", "frames; records; media; lists")
	for _, command := range []string{"flat", "ramp", "noise"} {
		more := map[string]string{"flat": " 5", "ramp": " 5 6", "noise": " 5"}[command]
		for _, shape := range []string{"1 1 10 0", "64 64 12 1", "64 1 10 0", "1 64 10 1", "63 64 12 0", "64 64 10 0"} {
			says(t, d, command+" a "+shape+more, "frame "+shape)
		}
	}
	says(t, d, "show a 0 63 63 1 1", does(t, d, "show a 0 63 63 1 1"))
	refuses(t, d, "show a 0 64 63 1 1", api.ErrPlaneRect)
}

// ramp: (P x + Q y + p) modulo MAX + 1, of each plane's own places.
func TestRamp(t *testing.T) {
	d := newDesk(t)
	play(t, d, `
ramp a 5 2 10 1 500 1000 => frame 5 2 10 1
show a 0 0 0 5 2 => 0 500 1000 476 976 / 1000 476 976 452 952
show a 1 0 0 3 2 => 1 501 1001 / 1001 477 977
show a 2 0 0 3 2 => 2 502 1002 / 1002 478 978
show a 3 0 0 5 2 => 3 503 1003 479 979 / 1003 479 979 455 955
ramp a 3 2 12 0 999999999 999999999 => frame 3 2 12 0
show a 0 0 0 3 2 => 0 2559 1022 / 2559 1022 3581
show a 1 0 0 2 2 => 1 2560 / 2560 1023
show a 2 0 0 2 2 => 2 2561 / 2561 1024
ramp a 64 64 12 0 999999999 999999999 => frame 64 64 12 0
show a 0 57 63 7 1 => 3976 2439 902 3461 1924 387 2946
ramp a 2 2 10 1 0 0
show a 0 0 0 2 2 => 0 0 / 0 0
show a 1 0 0 1 2 => 1 / 1
show a 3 0 0 2 2 => 3 3 / 3 3`)
}

// noise: one row of numbers for all planes, one behind the other.
func TestNoise(t *testing.T) {
	d := newDesk(t)
	play(t, d, `
noise a 3 2 10 0 5 => frame 3 2 10 0
show a 0 0 0 3 2 => 223 265 376 / 133 977 364
show a 1 0 0 2 2 => 696 115 / 828 104
show a 2 0 0 2 2 => 541 684 / 253 789
noise a 3 2 12 1 0 => frame 3 2 12 1
show a 0 0 0 3 2 => 0 988 1796 / 1637 3498 543
show a 1 0 0 2 2 => 3757 3357 / 3930 218
show a 2 0 0 2 2 => 4069 2476 / 1563 1566
show a 3 0 0 3 2 => 607 1299 3696 / 1657 2924 1277
noise a 2 1 10 1 999999999 => frame 2 1 10 1
show a 0 0 0 2 1 => 173 314
show a 1 0 0 1 1 => 335
show a 2 0 0 1 1 => 988
show a 3 0 0 2 1 => 187 631`)
}

// dot: one sample of the frame is another one; F is the new frame.
func TestDot(t *testing.T) {
	d := newDesk(t)
	play(t, d, `
flat a 5 2 10 1 7
flat b 5 2 10 0 7
flat c 5 2 12 0 7
dot a 0 4 1 1023 => frame 5 2 10 1
dot a 1 2 0 0 => frame 5 2 10 1
dot a 2 0 1 9 => frame 5 2 10 1
dot a 3 4 0 8 => frame 5 2 10 1
dot a 3 4 0 11 => frame 5 2 10 1
show a 0 0 0 5 2 => 7 7 7 7 7 / 7 7 7 7 1023
show a 1 0 0 3 2 => 7 7 0 / 7 7 7
show a 2 0 0 3 2 => 7 7 7 / 9 7 7
show a 3 0 0 5 2 => 7 7 7 7 11 / 7 7 7 7 7
dot a 0 5 0 1 => error 65
dot a 0 0 2 1 => error 65
dot a 1 3 0 1 => error 65
dot a 4 0 0 1 => error 65
dot b 3 0 0 1 => error 65
dot b 999999999 999999999 999999999 1 => error 65
dot b 0 0 0 1024 => error 64
dot b 0 0 0 65535 => error 64
dot b 0 0 0 65536 => error 64
dot b 0 0 0 65537 => error 64
dot b 0 0 0 66000 => error 64
dot b 0 0 0 131072 => error 64
dot b 0 0 0 999999999 => error 64
dot b 0 5 0 1024 => error 65
dot c 0 0 0 4095 => frame 5 2 12 0
dot c 0 0 0 4096 => error 64
show c 0 0 0 2 1 => 4095 7
apart b b => 0,0,0,0
show b 0 0 0 5 2 => 7 7 7 7 7 / 7 7 7 7 7
dot d 0 0 0 1 => error 222
names => frames a b c; records; media; lists`)
}

// part: a rectangle that is whole, as a frame of its own; also in the place of the frame itself.
func TestPart(t *testing.T) {
	d := newDesk(t)
	play(t, d, `
ramp a 5 4 10 0 10 100
part b a 2 1 3 2 => frame 3 2 10 0
show b 0 0 0 3 2 => 120 130 140 / 220 230 240
show b 1 0 0 2 2 => 111 121 / 211 221
part b a 1 0 2 2 => error 65
part b a 0 0 3 2 => error 65
part b a 0 0 6 1 => error 65
part b a 0 0 0 1 => error 65
part b a 0 4 2 1 => error 65
part b a 0 999999999 2 999999999 => error 65
show b 0 0 0 1 1 => 120
part b b 2 1 1 1 => frame 1 1 10 0
show b 0 0 0 1 1 => 240
show b 1 0 0 1 1 => 221
part a a 0 0 5 4 => frame 5 4 10 0
show a 0 4 3 1 1 => 340
ramp c 4 4 12 1 10 100
part d c 2 2 2 2 => frame 2 2 12 1
show d 3 0 0 2 2 => 223 233 / 323 333
part e nobody 0 0 2 2 => error 222
names => frames a b c d; records; media; lists`)
}

// mix: the second frame by N of M parts, rounded to the nearest.
func TestMix(t *testing.T) {
	d := newDesk(t)
	play(t, d, `
flat a 2 1 10 0 10
flat b 2 1 10 0 20
flat c 2 1 10 0 3
flat d 2 1 10 0 4
flat e 2 1 12 0 4
flat f 4 1 10 0 4
mix x a b 1 3 => frame 2 1 10 0
show x 0 0 0 2 1 => 13 13
mix x a b 1 2 => frame 2 1 10 0
show x 1 0 0 1 1 => 15
mix x c d 1 2 => frame 2 1 10 0
show x 2 0 0 1 1 => 4
mix x a b 0 1 => frame 2 1 10 0
apart x a => 0,0,0,0
mix x a b 101 101 => frame 2 1 10 0
apart x b => 0,0,0,0
mix x a b 0 0 => error 1
mix x a b 2 1 => error 1
mix x a b 1 102 => error 1
mix x a b 0 999999999 => error 1
mix x a e 1 2 => error 204
mix x a f 1 2 => error 204
mix x a f 3 2 => error 1
apart x b => 0,0,0,0
mix a a b 1 2 => frame 2 1 10 0
show a 0 0 0 2 1 => 15 15
mix b a b 1 5 => frame 2 1 10 0
show b 0 0 0 2 1 => 16 16
mix x x nobody 1 2 => error 222
mix x nobody x 1 2 => error 222`)
}

// show: a plane's rectangle, in that plane's own samples.
func TestShow(t *testing.T) {
	play(t, newDesk(t), `
ramp a 5 3 12 1 1 1000
show a 0 0 0 1 1 => 0
show a 0 1 1 3 1 => 1001 1002 1003
show a 0 4 0 1 3 => 4 / 1004 / 2004
show a 1 2 1 1 2 => 1003 / 2003
show a 2 0 2 3 1 => 2002 2003 2004
show a 3 3 0 2 2 => 6 7 / 1006 1007
show a 4 0 0 1 1 => error 65
show a 0 0 0 6 1 => error 65
show a 0 0 0 1 4 => error 65
show a 0 5 0 1 1 => error 65
show a 0 0 0 0 1 => error 65
show a 0 0 0 1 0 => error 65
show a 1 0 0 4 1 => error 65
show a 0 1 0 999999999 1 => error 65
flat b 2 2 10 0 5
show b 3 0 0 1 1 => error 65`)
}

// apart, error: how far two frames are apart.
func TestApartAndError(t *testing.T) {
	play(t, newDesk(t), `
flat a 5 2 10 1 10
flat b 5 2 10 1 10
flat c 5 2 10 0 10
flat d 5 2 12 1 10
dot b 0 4 1 13
dot b 1 0 0 5
dot b 3 1 1 1023
apart a b => 3,5,0,1013
apart b a => 3,5,0,1013
apart b b => 0,0,0,0
error a b 0 => 0.9
error b a 0 => 0.9
error a b 1 => 4.166666666666667
error a b 2 => 0
error a b 3 => 102616.9
error c c 0 => 0
error c c 3 => error 65
error a b 4 => error 65
error a b 999999999 => error 65
apart a c => error 61
apart c a => error 61
apart a d => error 61
error a c 9 => error 61
flat e 64 64 10 0 0
flat f 64 64 10 0 0
dot f 0 9 9 1
error e f 0 => 0.000244140625
ramp g 3 1 12 0 4095 0
flat h 3 1 12 0 0
error g h 0 => 1.1176620333333334e+07
apart a nobody => error 222
apart nobody a => error 222
error a nobody 0 => error 222`)
}

// pack: how many bytes a frame is by a format, and their sum.
func TestPack(t *testing.T) {
	play(t, newDesk(t), `
flat a 1 1 10 0 1
dot a 1 0 0 2
dot a 2 0 0 769
pack a planar => 6 bytes bded8129
flat c 4 2 12 0 9
flat e 4 2 10 1 9
flat f 49 2 10 0 0
pack a v210 => 128 bytes effcf3b9
pack c planar => 32 bytes e7c27ea2
pack c v210 => error 71
pack e v210 => error 71
pack f v210 => 512 bytes 1eae554d
pack f planar => 396 bytes 336865ad
pack nobody planar => error 222
pack a v211 => error 221
pack nobody v211 => error 221`)
}
