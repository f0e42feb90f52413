package pixel_test

import (
	"bytes"
	"testing"

	"dailies/api"
	"dailies/pixel"
)

// planarText is what PackPlanar must tell.
func planarText(f api.Frame) []byte {
	var out []byte
	for _, samples := range f.Planes {
		for _, sample := range samples {
			out = append(out, byte(sample%256), byte(sample/256))
		}
	}
	return out
}

func TestX1PlanarSize(t *testing.T) {
	k := kinds()[0]
	for _, w := range append(widths(), 999, 1365, 4095, 4096) {
		for _, h := range []int{1, 2, 3, 100, 512} {
			for _, s := range k.shapes(w, h) {
				want := 0
				for p := range count(s) {
					want += 2 * wide(s, p) * h
				}
				if s.Alpha && want > 2*api.MaxSamples {
					continue
				}
				if n, e := pixel.PlanarSize(s); n != want || e != api.OK {
					t.Fatal(s, n, want, e)
				}
			}
		}
	}
	if n, e := pixel.PlanarSize(api.Shape{Width: 4096, Height: 512, Depth: 12}); n != 1<<23 || e != api.OK {
		t.Error("the greatest", n, e)
	}
	if n, e := pixel.PlanarSize(api.Shape{Width: 5, Height: 2, Depth: 11}); n != 0 || e != api.ErrPlaneShape {
		t.Error(n, e)
	}
}

func TestX2PackPlanar(t *testing.T) {
	c := chance(11)
	k := kinds()[0]
	for _, w := range widths() {
		for _, h := range []int{1, 2, 7} {
			for _, s := range k.shapes(w, h) {
				f := c.frame(s)
				if b := k.packed(t, f); !bytes.Equal(b, planarText(f)) {
					t.Fatal(s, b, planarText(f))
				}
			}
		}
	}
}

// Each sample in turn is each number that two bytes can spell about MAX.
func TestX3UnpackPlanarSamples(t *testing.T) {
	k := kinds()[0]
	for _, w := range []int{1, 4, 5} {
		for _, s := range k.shapes(w, 2) {
			most := 1<<s.Depth - 1
			f := empty(s)
			b := planarText(f)
			at := 0
			for p := range f.Planes {
				for i := range f.Planes[p] {
					for _, x := range []int{1, 255, 256, most - 1, most} {
						b[at], b[at+1] = byte(x), byte(x>>8)
						f.Planes[p][i] = uint16(x)
						k.reads(t, b, f)
					}
					for _, x := range []int{most + 1, most + 2, 2*most + 1, 1 << 13, 1 << 14, 1 << 15, 65535} {
						b[at], b[at+1] = byte(x), byte(x>>8)
						k.refuses(t, s, b, api.ErrPixelSample, p, i, x)
					}
					b[at], b[at+1] = 0, 0
					f.Planes[p][i] = 0
					at += 2
				}
			}
		}
	}
}

// Every number of two bytes, of both depths.
func TestX3UnpackPlanarNumbers(t *testing.T) {
	k := kinds()[0]
	for _, depth := range []int{10, 12} {
		s := api.Shape{Width: 1, Height: 1, Depth: depth}
		f := empty(s)
		b := planarText(f)
		for x := range 1 << 16 {
			b[4], b[5] = byte(x), byte(x>>8)
			f.Planes[api.Red][0] = uint16(x)
			if x < 1<<depth {
				k.reads(t, b, f)
			} else {
				k.refuses(t, s, b, api.ErrPixelSample, x)
			}
		}
	}
}

// The same bytes by shapes that have as many: what they are hangs on the shape alone.
func TestX3UnpackPlanarByTheShape(t *testing.T) {
	c := chance(12)
	k := kinds()[0]
	b := planarText(c.frame(api.Shape{Width: 6, Height: 4, Depth: 10}))
	for _, s := range []api.Shape{{Width: 6, Height: 4, Depth: 12}, {Width: 4, Height: 6, Depth: 10}, {Width: 24, Height: 1, Depth: 10}, {Width: 2, Height: 8, Depth: 10, Alpha: true}, {Width: 5, Height: 4, Depth: 10}} {
		f, e := pixel.UnpackPlanar(s, b)
		if s.Width == 5 {
			k.refuses(t, s, b, api.ErrPixelLength)
			continue
		}
		if e != api.OK || f.Shape != s || !bytes.Equal(planarText(f), b) {
			t.Error(s, e)
		}
		for p, samples := range f.Planes {
			if len(samples) != wide(s, p)*s.Height {
				t.Error(s, p, len(samples))
			}
		}
	}
}

func TestExamplesOfPlanar(t *testing.T) {
	s := api.Shape{Width: 1, Height: 1, Depth: 10}
	f := api.Frame{Shape: s, Planes: [][]uint16{{1}, {2}, {769}}}
	k := kinds()[0]
	if n, e := pixel.PlanarSize(s); n != 6 || e != api.OK {
		t.Error(n, e)
	}
	if b := k.packed(t, f); !bytes.Equal(b, []byte{1, 0, 2, 0, 1, 3}) {
		t.Error(b)
	}
	k.reads(t, []byte{1, 0, 2, 0, 1, 3}, f)
	k.refuses(t, s, []byte{1, 0, 2, 0, 0, 4}, api.ErrPixelSample)
}
