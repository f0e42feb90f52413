package pixel_test

import (
	"bytes"
	"math"
	"slices"
	"testing"

	"dailies/api"
	"dailies/pixel"
)

// chance is a row of numbers that look like chance and are the same each time.
type chance uint64

func (c *chance) below(n int) int {
	*c = *c*6364136223846793005 + 1442695040888963407
	return int(uint64(*c)>>33) % n
}

// frame has samples by chance; its shape must be one that may be.
func (c *chance) frame(s api.Shape) api.Frame {
	f := empty(s)
	for _, samples := range f.Planes {
		for i := range samples {
			samples[i] = uint16(c.below(1 << s.Depth))
		}
	}
	return f
}

// empty is a frame of noughts.
func empty(s api.Shape) api.Frame { return full(s, 0) }

// full is a frame all of whose samples are one number.
func full(s api.Shape, sample uint16) api.Frame {
	f := api.Frame{Shape: s}
	for p := range count(s) {
		f.Planes = append(f.Planes, slices.Repeat([]uint16{sample}, wide(s, p)*s.Height))
	}
	return f
}

// count is how many planes a shape has.
func count(s api.Shape) int {
	if s.Alpha {
		return 4
	}
	return 3
}

// wide is a plane's width: of chroma as many samples as there are ones whose first luma is there.
func wide(s api.Shape, p int) int {
	if p == api.Luma || p == api.Alpha {
		return s.Width
	}
	n := 0
	for 2*n < s.Width {
		n++
	}
	return n
}

// copied is a frame of memory of its own.
func copied(f api.Frame) api.Frame {
	g := api.Frame{Shape: f.Shape, Planes: make([][]uint16, len(f.Planes))}
	for p, samples := range f.Planes {
		g.Planes[p] = slices.Clone(samples)
	}
	return g
}

// same tells whether two frames have the same shape and samples.
func same(f, g api.Frame) bool {
	return f.Shape == g.Shape && slices.EqualFunc(f.Planes, g.Planes, slices.Equal[[]uint16])
}

// nothing tells whether a frame is the one that stands beside an error.
func nothing(f api.Frame) bool { return f.Shape == (api.Shape{}) && len(f.Planes) == 0 }

// widths are those at which something begins or ends: a sample of chroma, a group, a step of 48.
func widths() []int {
	return []int{1, 2, 3, 4, 5, 6, 7, 8, 11, 12, 13, 41, 42, 43, 47, 48, 49, 50, 95, 96, 97}
}

// kind is a format as its three calls.
type kind struct {
	name   string
	size   func(api.Shape) (int, api.Errno)
	pack   func(api.Frame) ([]byte, api.Errno)
	unpack func(api.Shape, []byte) (api.Frame, api.Errno)
	shapes func(width, height int) []api.Shape // all of these sides that the format has
}

func kinds() []kind {
	return []kind{
		{"planar", pixel.PlanarSize, pixel.PackPlanar, pixel.UnpackPlanar, func(w, h int) []api.Shape {
			return []api.Shape{{Width: w, Height: h, Depth: 10}, {Width: w, Height: h, Depth: 12}, {Width: w, Height: h, Depth: 10, Alpha: true}, {Width: w, Height: h, Depth: 12, Alpha: true}}
		}},
		{"v210", pixel.V210Size, pixel.PackV210, pixel.UnpackV210, func(w, h int) []api.Shape {
			return []api.Shape{{Width: w, Height: h, Depth: 10}}
		}},
	}
}

// packed is pack of a frame that has bytes, as many as size says.
func (k kind) packed(t *testing.T, f api.Frame) []byte {
	t.Helper()
	n, e := k.size(f.Shape)
	if e != api.OK {
		t.Fatal(k.name, "size", f.Shape, e)
	}
	b, e := k.pack(f)
	if e != api.OK || len(b) != n {
		t.Fatal(k.name, "pack", f.Shape, len(b), n, e)
	}
	return b
}

// reads holds what bytes are against a frame.
func (k kind) reads(t *testing.T, b []byte, want api.Frame) {
	t.Helper()
	f, e := k.unpack(want.Shape, b)
	if e != api.OK || !same(f, want) {
		t.Fatal(k.name, "unpack", want.Shape, e, "is not the frame")
	}
}

// refuses holds what unpack says of bytes against an error.
func (k kind) refuses(t *testing.T, s api.Shape, b []byte, want api.Errno, what ...any) {
	t.Helper()
	if f, e := k.unpack(s, b); e != want || !nothing(f) {
		t.Fatal(k.name, "unpack", s, len(b), what, "tells", e, "not", want)
	}
}

func TestP7_1UnpackOfPackIsTheFrame(t *testing.T) {
	c := chance(1)
	for _, k := range kinds() {
		for _, w := range widths() {
			for _, h := range []int{1, 2, 5} {
				for _, s := range k.shapes(w, h) {
					for _, f := range []api.Frame{empty(s), full(s, 1<<s.Depth-1), c.frame(s), c.frame(s)} {
						k.reads(t, k.packed(t, f), f)
					}
				}
			}
		}
	}
}

func TestP7_1OfTheGreatestFrames(t *testing.T) {
	c := chance(2)
	for _, k := range kinds() {
		for _, s := range append(k.shapes(4096, 512), append(k.shapes(1, 2048), k.shapes(4095, 3)...)...) {
			if s.Alpha {
				s.Height = s.Height * 2 / 3
			}
			f := c.frame(s)
			k.reads(t, k.packed(t, f), f)
		}
	}
}

// Bytes are made other ones, bit by bit and by chance: what is taken, is written again.
func TestP7_2PackOfUnpackIsTheBytes(t *testing.T) {
	c := chance(3)
	for _, k := range kinds() {
		taken, refused := 0, 0
		for round := range 4000 {
			w := widths()[c.below(len(widths()))]
			shapes := k.shapes(w, 1+c.below(3))
			s := shapes[c.below(len(shapes))]
			b := k.packed(t, c.frame(s))
			for range round % 4 {
				b[c.below(len(b))] ^= 1 << c.below(8)
			}
			f, e := k.unpack(s, b)
			if e == api.ErrPixelSample {
				refused++
				continue
			}
			taken++
			if again, e2 := k.pack(f); e != api.OK || e2 != api.OK || !bytes.Equal(again, b) {
				t.Fatal(k.name, s, e, e2)
			}
		}
		if taken < 1000 || refused < 500 {
			t.Error(k.name, "taken", taken, "refused", refused)
		}
	}
}

// By one format no two texts of bytes are one frame, and no two frames one text: gone through for all frames of 1 by 1 of which only some bits of each sample are set.
func TestP7_2NoTwoTextsAreOneFrame(t *testing.T) {
	for _, k := range kinds() {
		s := api.Shape{Width: 1, Height: 1, Depth: 10}
		seen := map[string]int{}
		for n := range 1 << 9 {
			f := empty(s)
			for p := range 3 {
				three := n >> (3 * p) & 7
				f.Planes[p][0] = uint16(three&1 | three&2<<3 | three&4<<7)
			}
			seen[string(k.packed(t, f))]++
		}
		if len(seen) != 1<<9 {
			t.Error(k.name, len(seen))
		}
	}
}

// wrong are shapes that may not be.
func wrong() []api.Shape {
	all := []api.Shape{{}, {Width: 4096, Height: 513, Depth: 10}, {Width: 4096, Height: 4096, Depth: 10}, {Width: 2, Height: 2}, {Width: 2, Height: 2, Depth: 11}, {Width: 2, Height: 2, Depth: -10}, {Width: 2, Height: 2, Depth: 1<<32 + 10}}
	for _, side := range []int{0, -1, 4097, math.MinInt, math.MaxInt, 1 << 32, 1<<32 + 1, math.MaxInt/128 + 1} {
		all = append(all, api.Shape{Width: side, Height: 2, Depth: 10}, api.Shape{Width: 2, Height: side, Depth: 10}, api.Shape{Width: side, Height: side, Depth: 12, Alpha: true})
	}
	return all
}

func TestShapesThatMayNotBe(t *testing.T) {
	for _, k := range kinds() {
		for _, s := range wrong() {
			if n, e := k.size(s); n != 0 || e != api.ErrPlaneShape {
				t.Error(k.name, "size", s, n, e)
			}
			for _, n := range []int{0, 1, 128} {
				k.refuses(t, s, make([]byte, n), api.ErrPlaneShape)
			}
			k.refuses(t, s, nil, api.ErrPlaneShape)
			if b, e := k.pack(api.Frame{Shape: s, Planes: [][]uint16{{1, 2, 3, 4}, {1, 2}, {3, 4}}}); len(b) != 0 || e != api.ErrPlaneShape {
				t.Error(k.name, "pack", s, len(b), e)
			}
		}
	}
}

// A frame that is wrong in all ways is mended way by way: each time the error is the one that is named next. That a format has no such shape comes behind all of them.
func TestFramesThatMayNotBe(t *testing.T) {
	for _, k := range kinds() {
		for _, s := range []api.Shape{{Width: 5, Height: 2, Depth: 10}, {Width: 5, Height: 2, Depth: 12}, {Width: 5, Height: 2, Depth: 10, Alpha: true}, {Width: 48, Height: 1, Depth: 12, Alpha: true}} {
			last := api.OK
			if k.name == "v210" && (s.Depth == 12 || s.Alpha) {
				last = api.ErrPixelFormat
			}
			f := full(s, 9)
			end := len(f.Planes) - 1
			f.Planes[0][0] = 1 << s.Depth
			f.Planes[end] = f.Planes[end][1:]
			f.Planes = append(f.Planes, nil)
			f.Shape.Depth = 11
			refusesFrame(t, k, f, api.ErrPlaneShape)
			f.Shape.Depth = s.Depth
			refusesFrame(t, k, f, api.ErrPlanePlanes)
			f.Planes = f.Planes[:end+1]
			refusesFrame(t, k, f, api.ErrPlaneSize)
			f.Planes[end] = append(f.Planes[end], 9)
			refusesFrame(t, k, f, api.ErrPlaneSample)
			f.Planes[0][0] = 1<<s.Depth - 1
			if last != api.OK {
				refusesFrame(t, k, f, last)
			} else if _, e := k.pack(f); e != api.OK {
				t.Error(k.name, s, e)
			}
		}
		refusesFrame(t, k, api.Frame{}, api.ErrPlaneShape)
		refusesFrame(t, k, api.Frame{Shape: api.Shape{Width: 1, Height: 1, Depth: 10}}, api.ErrPlanePlanes)
	}
}

// refusesFrame holds what pack says of a frame against an error.
func refusesFrame(t *testing.T, k kind, f api.Frame, want api.Errno) {
	t.Helper()
	if b, e := k.pack(f); len(b) != 0 || e != want {
		t.Error(k.name, "pack", f.Shape, len(b), "tells", e, "not", want)
	}
}

// In each plane, at each place: MAX goes, one more does not.
func TestPackOfSamplesBeyondTheDepth(t *testing.T) {
	for _, k := range kinds() {
		for _, s := range k.shapes(7, 2) {
			f := empty(s)
			for p := range f.Planes {
				for i := range f.Planes[p] {
					most := uint16(1<<s.Depth - 1)
					f.Planes[p][i] = most
					k.reads(t, k.packed(t, f), f)
					for _, x := range []uint16{most + 1, 1 << 15, 65535} {
						f.Planes[p][i] = x
						refusesFrame(t, k, f, api.ErrPlaneSample)
					}
					f.Planes[p][i] = 0
				}
			}
		}
	}
}

// Bytes that are wrong in length and in what they spell are told by their length.
func TestLengths(t *testing.T) {
	for _, k := range kinds() {
		for _, w := range []int{1, 5, 48, 49} {
			for _, s := range append(k.shapes(w, 1), k.shapes(w, 3)...) {
				n := len(k.packed(t, empty(s)))
				for _, wrong := range []int{0, 1, n - 2, n - 1, n + 1, n + 2, n + 128, 2 * n} {
					k.refuses(t, s, make([]byte, wrong), api.ErrPixelLength)
					k.refuses(t, s, bytes.Repeat([]byte{255}, wrong), api.ErrPixelLength)
				}
				k.refuses(t, s, nil, api.ErrPixelLength)
				k.refuses(t, s, bytes.Repeat([]byte{255}, n), api.ErrPixelSample)
				k.reads(t, make([]byte, n), empty(s))
			}
		}
	}
}
