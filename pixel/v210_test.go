package pixel_test

import (
	"bytes"
	"testing"

	"dailies/api"
	"dailies/pixel"
)

// table is the chapter's: a letter for the plane, a digit for the number within the group.
const table = "B0 Y0 R0 Y1 B1 Y2 R1 Y3 B2 Y4 R2 Y5"

// owner is the plane and the sample in it that has a bit of the bytes of a frame, and which of its bits; false, if none has it.
func owner(s api.Shape, bit int) (plane, sample, digit int, ok bool) {
	length := (s.Width + 47) / 48 * 128 * 8
	y, inRow := bit/length, bit%length
	group, inGroup := inRow/128, inRow%128
	word, inWord := inGroup/32, inGroup%32
	if inWord >= 30 {
		return 0, 0, 0, false
	}
	name := table[3*(3*word+inWord/10):]
	plane, each := map[byte]int{'Y': 0, 'B': 1, 'R': 2}[name[0]], 3
	if plane == 0 {
		each = 6
	}
	x := group*each + int(name[1]-'0')
	if x >= wide(s, plane) {
		return 0, 0, 0, false
	}
	return plane, y*wide(s, plane) + x, inWord % 10, true
}

// v210Text is what PackV210 must tell, found bit by bit. A bit's number counts within a byte from the lowest on, as the lowest byte is the first.
func v210Text(f api.Frame) []byte {
	out := make([]byte, f.Shape.Height*((f.Shape.Width+47)/48)*128)
	for bit := range 8 * len(out) {
		if p, i, digit, ok := owner(f.Shape, bit); ok {
			out[bit/8] |= byte(f.Planes[p][i]>>digit&1) << (bit % 8)
		}
	}
	return out
}

func TestX4V210Size(t *testing.T) {
	for width := 1; width <= 4096; width++ {
		steps := 0
		for 48*steps < width {
			steps++
		}
		for _, h := range []int{1, 2, 512} {
			if n, e := pixel.V210Size(api.Shape{Width: width, Height: h, Depth: 10}); n != h*128*steps || e != api.OK {
				t.Fatal(width, h, n, e)
			}
		}
	}
	for height := 1; height <= 4096; height++ {
		if n, e := pixel.V210Size(api.Shape{Width: 97, Height: height, Depth: 10}); n != height*384 || e != api.OK {
			t.Fatal(height, n, e)
		}
	}
}

func TestX4ShapesThatV210HasNot(t *testing.T) {
	k := kinds()[1]
	for _, w := range widths() {
		for _, s := range []api.Shape{{Width: w, Height: 2, Depth: 12}, {Width: w, Height: 2, Depth: 10, Alpha: true}, {Width: w, Height: 2, Depth: 12, Alpha: true}} {
			if n, e := pixel.V210Size(s); n != 0 || e != api.ErrPixelFormat {
				t.Error(s, n, e)
			}
			refusesFrame(t, k, full(s, 1023), api.ErrPixelFormat)
			size := (w + 47) / 48 * 256
			for _, n := range []int{0, size - 1, size, size + 1} { // ahead of the length, and of what the bytes spell
				k.refuses(t, s, make([]byte, n), api.ErrPixelFormat)
				k.refuses(t, s, bytes.Repeat([]byte{255}, n), api.ErrPixelFormat)
			}
		}
	}
}

func TestX5PackV210(t *testing.T) {
	c := chance(21)
	k := kinds()[1]
	for _, w := range widths() {
		for _, h := range []int{1, 2, 7} {
			s := api.Shape{Width: w, Height: h, Depth: 10}
			for _, f := range []api.Frame{c.frame(s), full(s, 1023), empty(s)} {
				if b := k.packed(t, f); !bytes.Equal(b, v210Text(f)) {
					t.Fatal(s, b, v210Text(f))
				}
			}
		}
	}
}

// Each bit of the bytes, in every row, is turned: if a sample has it, this sample alone is another one; else it is a bit that must be 0.
func TestX6UnpackV210EachBit(t *testing.T) {
	c := chance(22)
	k := kinds()[1]
	for _, w := range widths() {
		s := api.Shape{Width: w, Height: 3, Depth: 10}
		for _, f := range []api.Frame{c.frame(s), empty(s)} {
			b := v210Text(f)
			k.reads(t, b, f)
			for bit := range 8 * len(b) {
				b[bit/8] ^= 1 << (bit % 8)
				if p, i, digit, ok := owner(s, bit); ok {
					f.Planes[p][i] ^= 1 << digit
					k.reads(t, b, f)
					f.Planes[p][i] ^= 1 << digit
				} else {
					k.refuses(t, s, b, api.ErrPixelSample, bit)
				}
				b[bit/8] ^= 1 << (bit % 8)
			}
		}
	}
}

// Samples beyond the row that are whole numbers, in each place of a group that may be one.
func TestX6UnpackV210SamplesBeyond(t *testing.T) {
	k := kinds()[1]
	for w := 1; w <= 13; w++ {
		s := api.Shape{Width: w, Height: 2, Depth: 10}
		f := full(s, 1023)
		b := v210Text(f)
		for y := range 2 {
			for place := range 96 { // those of eight groups
				at := y*128 + place/3*4
				if _, _, _, ok := owner(s, at*8+place%3*10); ok {
					continue
				}
				for _, x := range []uint32{1, 512, 1023} {
					other := bytes.Clone(b)
					for i := range 4 {
						other[at+i] |= byte(x << (place % 3 * 10) >> (8 * i))
					}
					k.refuses(t, s, other, api.ErrPixelSample, y, place, x)
				}
			}
		}
	}
}

// Of a width that is odd, the last sample of chroma belongs to one of luma alone, and is there.
func TestX6TheLastChromaOfAnOddRow(t *testing.T) {
	k := kinds()[1]
	for _, w := range []int{1, 3, 5, 7, 47, 49, 97} {
		f := empty(api.Shape{Width: w, Height: 2, Depth: 10})
		for _, p := range []int{api.Blue, api.Red} {
			f.Planes[p][(w+1)/2-1] = 1023
			f.Planes[p][2*((w+1)/2)-1] = 1
		}
		b := k.packed(t, f)
		if !bytes.Equal(b, v210Text(f)) {
			t.Fatal(w, b)
		}
		k.reads(t, b, f)
	}
}

func TestExamplesOfV210(t *testing.T) {
	k := kinds()[1]
	s := api.Shape{Width: 1, Height: 1, Depth: 10}
	f := api.Frame{Shape: s, Planes: [][]uint16{{1}, {2}, {769}}}
	want := make([]byte, 128)
	copy(want, []byte{2, 4, 16, 48})
	if b := k.packed(t, f); !bytes.Equal(b, want) {
		t.Error(b)
	}
	k.reads(t, want, f)
	want[4] = 1
	k.refuses(t, s, want, api.ErrPixelSample)
	if n, e := pixel.V210Size(api.Shape{Width: 49, Height: 2, Depth: 10}); n != 512 || e != api.OK {
		t.Error(n, e)
	}
}
