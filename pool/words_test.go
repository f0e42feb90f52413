package pool_test

import (
	"bytes"
	"encoding/binary"
	"math"
	"runtime"
	"slices"
	"strings"
	"testing"
	"time"

	"dailies/api"
	"dailies/crc"
	"dailies/picture"
)

// chance tells numbers that look as if by chance, the same ones each time.
type chance uint64

func (c *chance) below(n int) int {
	*c = *c*6364136223846793005 + 1442695040888963407
	return int(uint64(*c)>>33) % n
}

// wrongWorkers may not be; rightWorkers may.
func wrongWorkers() []int {
	return []int{-1, 0, 17, 18, -2, -16, 256 + 1, 1<<32 + 1, math.MinInt32, math.MaxInt32, math.MinInt, math.MinInt + 1, math.MaxInt}
}

func rightWorkers() []int {
	var list []int
	for workers := 1; workers <= 16; workers++ {
		list = append(list, workers)
	}
	return list
}

func count(s api.Shape) int {
	if s.Alpha {
		return 4
	}
	return 3
}

// wide is how many samples a row of a plane has.
func wide(s api.Shape, p int) int {
	if p == api.Blue || p == api.Red {
		return (s.Width + 1) / 2
	}
	return s.Width
}

// samples is how many a frame of a shape has.
func samples(s api.Shape) int {
	total := 0
	for p := range count(s) {
		total += wide(s, p) * s.Height
	}
	return total
}

// frameOf has samples that are told by their plane and place.
func frameOf(s api.Shape, sample func(p, x, y int) int) api.Frame {
	f := api.Frame{Shape: s}
	for p := range count(s) {
		list := make([]uint16, 0, s.Width*s.Height)
		for y := range s.Height {
			for x := range wide(s, p) {
				list = append(list, uint16(min(max(sample(p, x, y), 0), 1<<s.Depth-1)))
			}
		}
		f.Planes = append(f.Planes, list)
	}
	return f
}

// flat, ramp, noise and mixed are frames by which slices are told very short, short, raw, and all of these.
func flat(s api.Shape, v int) api.Frame { return frameOf(s, func(p, x, y int) int { return v }) }

func ramp(s api.Shape) api.Frame {
	return frameOf(s, func(p, x, y int) int { return (3*x + 7*y + p) % (1 << s.Depth) })
}

func noise(s api.Shape, c *chance) api.Frame {
	return frameOf(s, func(p, x, y int) int { return c.below(1 << s.Depth) })
}

func mixed(s api.Shape, c *chance) api.Frame {
	return frameOf(s, func(p, x, y int) int {
		switch (x/11 + y/13 + p) % 4 {
		case 0:
			return c.below(1 << s.Depth)
		case 1:
			return 1<<s.Depth - 1 - c.below(3)
		case 2:
			return 5*x + y + c.below(20)
		default:
			return 300
		}
	})
}

// copied shares no memory with the frame.
func copied(f api.Frame) api.Frame {
	g := api.Frame{Shape: f.Shape}
	for _, samples := range f.Planes {
		g.Planes = append(g.Planes, slices.Clone(samples))
	}
	return g
}

// spare is a list with room behind it that is written full.
func spare[T any](items []T, mark T) []T {
	return append(slices.Clone(items), slices.Repeat([]T{mark}, 5)...)[:len(items)]
}

// flip writes over a list, and over its spare room.
func flip[T byte | uint16](items []T) {
	items = items[:cap(items)]
	for i := range items {
		items[i] = ^items[i]
	}
}

func sameFrames(a, b api.Frame) bool {
	return a.Shape == b.Shape && slices.EqualFunc(a.Planes, b.Planes, slices.Equal)
}

func sameCoded(a, b api.Coded) bool {
	return bytes.Equal(a.Bytes, b.Bytes) && a.Step == b.Step && a.Rung == b.Rung
}

func nothingCoded(x api.Coded) bool { return sameCoded(x, api.Coded{}) }

// small is a shape of six slices of 16 by 16, the last of which are smaller and odd.
var (
	small = api.Shape{Width: 35, Height: 20, Depth: 10}
	plain = api.Config{SliceW: 16, SliceH: 16, Ladder: []api.Rung{{}}, Parity: 1}
)

// way is a frame with a configuration that may be for it.
type way struct {
	frame  api.Frame
	config api.Config
}

// ways are frames and configurations of all kinds: with alpha and without, of both depths and odd widths, of one slice and of many, with parity and without.
func ways() []way {
	c := chance(14)
	ladder := []api.Rung{{}, {1, 2, 3}, {7, 0, 9}, {63, 63, 63}}
	var list []way
	for i, s := range []api.Shape{
		{Width: 1, Height: 1, Depth: 10}, {Width: 1, Height: 40, Depth: 12}, {Width: 16, Height: 16, Depth: 10}, {Width: 17, Height: 17, Depth: 12},
		{Width: 48, Height: 32, Depth: 10}, {Width: 51, Height: 20, Depth: 10}, {Width: 33, Height: 50, Depth: 12}, {Width: 70, Height: 16, Depth: 10},
	} {
		for k, f := range []api.Frame{flat(s, 100), ramp(s), noise(s, &c), mixed(s, &c)} {
			list = append(list,
				way{f, api.Config{SliceW: 16, SliceH: 16, Ladder: ladder[(i+k)%4:]}},
				way{f, api.Config{SliceW: 18, SliceH: 17, Ladder: ladder, Parity: 1 + k}},
				way{f, api.Config{SliceW: 4096, SliceH: 4096, Ladder: ladder[k:], Parity: 4 * k}},
				way{f, api.Config{SliceW: 16, SliceH: 4096, Ladder: ladder[3-k:], Parity: 16}})
		}
		s.Alpha = true
		list = append(list,
			way{mixed(s, &c), api.Config{SliceW: 16, SliceH: 16, Ladder: []api.Rung{{1, 2, 0, i}, {9, 9, 9, 9}}, Parity: 3}},
			way{noise(s, &c), api.Config{SliceW: 32, SliceH: 19, Ladder: []api.Rung{{3, 1, 2, 63}}}})
	}
	return list
}

// wrongFrames may not be, each by another error of plane's.
func wrongFrames() map[api.Errno]api.Frame {
	size, sample := flat(small, 3), flat(small, 3)
	size.Planes[2] = size.Planes[2][1:]
	sample.Planes[1][len(sample.Planes[1])-1] = 1024
	return map[api.Errno]api.Frame{
		api.ErrPlaneShape:  {},
		api.ErrPlanePlanes: {Shape: small, Planes: flat(small, 3).Planes[:2]},
		api.ErrPlaneSize:   size,
		api.ErrPlaneSample: sample,
	}
}

// wrongConfigs may not be for small.
func wrongConfigs() []api.Config {
	var list []api.Config
	for _, change := range []func(c *api.Config){
		func(c *api.Config) { *c = api.Config{} },
		func(c *api.Config) { c.SliceW = 17 },
		func(c *api.Config) { c.SliceW = 0 },
		func(c *api.Config) { c.SliceH = 4097 },
		func(c *api.Config) { c.Ladder = nil },
		func(c *api.Config) { c.Ladder = slices.Repeat(c.Ladder, 17) },
		func(c *api.Config) { c.Ladder = []api.Rung{{}, {0, 0, 0, 1}} },
		func(c *api.Config) { c.Ladder = []api.Rung{{64}} },
		func(c *api.Config) { c.Cap = -1 },
		func(c *api.Config) { c.Parity = 17 },
		func(c *api.Config) { c.Parity = -1 },
	} {
		c := plain
		change(&c)
		list = append(list, c)
	}
	return list
}

// coded is what picture makes by one hand: its record, its head and its entries.
func coded(t *testing.T, f api.Frame, c api.Config) ([]byte, api.Head, []api.Entry) {
	t.Helper()
	x, e := picture.Encode(f, c)
	if e != api.OK {
		t.Fatal(f.Shape, c, e)
	}
	h, list := opened(t, x.Bytes)
	return x.Bytes, h, list
}

// assembled is the record of any payloads.
func assembled(t *testing.T, s api.Shape, c api.Config, payloads [][]byte) ([]byte, api.Head, []api.Entry) {
	t.Helper()
	b, e := picture.Assemble(s, c, c.Ladder[0], payloads)
	if e != api.OK {
		t.Fatal(s, c, e)
	}
	h, list := opened(t, b)
	return b, h, list
}

func opened(t *testing.T, record []byte) (api.Head, []api.Entry) {
	t.Helper()
	h, e := picture.Head(record)
	if e != api.OK {
		t.Fatal("Head", e)
	}
	list, e := picture.Table(h, record[32:])
	if e != api.OK {
		t.Fatal("Table", h, e)
	}
	return h, list
}

// bytesOf is what an entry says of a record.
func bytesOf(record []byte, entry api.Entry) []byte {
	return record[entry.At : entry.At+entry.Length]
}

// spoilt is a record whose payloads and parity rows of these numbers are other ones.
func spoilt(record []byte, list []api.Entry, numbers ...int) []byte {
	b := bytes.Clone(record)
	for _, k := range numbers {
		n := min(4, list[k].Length)
		for i := range n {
			b[list[k].At+(list[k].Length-n)/3+i] ^= byte(0x5a + i)
		}
	}
	return b
}

// resum makes the last four bytes the sum of those ahead, so that a head or a table that was written over is one.
func resum(b []byte) {
	n := len(b) - 4
	binary.BigEndian.PutUint32(b[n:], crc.Sum(b[:n]))
}

// subsets are all lists of numbers below n, rising.
func subsets(n int) [][]int {
	var list [][]int
	for bits := range 1 << n {
		var numbers []int
		for k := range n {
			if bits>>k&1 == 1 {
				numbers = append(numbers, k)
			}
		}
		list = append(list, numbers)
	}
	return list
}

// here is the goroutine that calls, by its number.
func here() string {
	b := make([]byte, 64)
	text, _, _ := strings.Cut(string(b[:runtime.Stack(b, false)]), " [")
	return text
}

// ended says that no goroutine beside the one that calls is at work in the program, at once; and that soon there are no more of them than before.
func ended(t *testing.T, before int) {
	t.Helper()
	b := make([]byte, 1<<20)
	all := string(b[:runtime.Stack(b, true)])
	for _, stack := range strings.Split(all, "\n\n")[1:] {
		if strings.Contains(stack, "dailies/picture.") || strings.Contains(stack, "dailies/view.") {
			t.Fatalf("a goroutine is still at work:\n%s", stack)
		}
	}
	for range 2000 {
		if runtime.NumGoroutine() <= before {
			return
		}
		time.Sleep(time.Millisecond)
	}
	t.Fatal(runtime.NumGoroutine(), "goroutines; there were", before)
}
