package session_test

import (
	"bytes"
	"math"
	"slices"
	"testing"

	"dailies/api"
	"dailies/medium"
	"dailies/picture"
	"dailies/plane"
	"dailies/reel"
	"dailies/session"
)

// chance tells numbers that look as if by chance, the same ones each time.
type chance uint64

func (c *chance) below(n int) int {
	*c = *c*6364136223846793005 + 1442695040888963407
	return int(uint64(*c)>>33) % n
}

// odd are numbers that are no place, slice or side.
func odd() []int {
	return []int{-1, -2, math.MinInt32, -1 << 32, math.MinInt + 1, math.MinInt, 100001, 1<<31 - 1, 1 << 31, 1 << 32, 1<<32 + 1, math.MaxInt - 1, math.MaxInt}
}

// shapes are some that may be; by sides of 16 the first one has four slices.
func shapes() []api.Shape {
	return []api.Shape{
		{Width: 20, Height: 18, Depth: 10},
		{Width: 20, Height: 18, Depth: 12},
		{Width: 20, Height: 18, Depth: 10, Alpha: true},
		{Width: 18, Height: 20, Depth: 10},
		{Width: 1, Height: 1, Depth: 10},
		{Width: 33, Height: 17, Depth: 12, Alpha: true},
	}
}

// small is the shape that most tests take.
func small() api.Shape { return shapes()[0] }

// samples is how many all planes of a shape have.
func samples(s api.Shape) int {
	n, e := plane.Samples(s)
	if e != api.OK {
		panic(e)
	}
	return n
}

// flat is a frame all of whose samples are one.
func flat(s api.Shape, v int) api.Frame {
	return painted(s, func(int, int) int { return v })
}

// noisy is a frame with samples as chance has them, above a slope, by a noise that is its own.
func noisy(c *chance, s api.Shape) api.Frame {
	base, slope, noise := c.below(1<<s.Depth), c.below(5), 1+c.below(60)
	return painted(s, func(_, i int) int { return base + slope*i/3 + c.below(noise) })
}

// painted is a frame whose samples are told by plane and place, kept to the depth.
func painted(s api.Shape, sample func(p, i int) int) api.Frame {
	f, e := plane.New(s)
	if e != api.OK {
		panic(e)
	}
	for p, list := range f.Planes {
		for i := range list {
			list[i] = uint16(min(max(sample(p, i), 0), 1<<s.Depth-1))
		}
	}
	return f
}

// noFrames are frames that may not be, each with its error, of the shape that most tests take, or near it.
func noFrames() map[api.Errno]api.Frame {
	high := flat(small(), 7)
	high.Planes[2][3] = 1024
	short := flat(small(), 7)
	short.Planes[1] = short.Planes[1][1:]
	few := flat(small(), 7)
	few.Planes = few.Planes[:2]
	shapeless := flat(small(), 7)
	shapeless.Shape.Depth = 11
	return map[api.Errno]api.Frame{api.ErrPlaneShape: shapeless, api.ErrPlanePlanes: few, api.ErrPlaneSize: short, api.ErrPlaneSample: high}
}

// by is a configuration of slices of 16 by 16 with no cap.
func by(parity int, ladder ...api.Rung) api.Config {
	return api.Config{SliceW: 16, SliceH: 16, Ladder: ladder, Parity: parity}
}

// plain is the configuration that most tests take: nothing is lost.
func plain() api.Config { return by(1, api.Rung{}) }

// label is the one that most tests take, of 22 bytes.
func label() api.Label { return api.Label{Title: "Day Two", Rate: api.Rate25, Start: 50} }

const labelSize = 22

// must looks whether an answer is the one that a test is made for.
func must(t *testing.T, e, want api.Errno) {
	t.Helper()
	if e != want {
		t.Fatal(e, "and not", want)
	}
}

// load is a medium that has these bytes.
func load(t *testing.T, b []byte) *medium.Medium {
	t.Helper()
	m, e := medium.Load(b)
	must(t, e, api.OK)
	return m
}

// kill lets a medium be dead, with the bytes that it has.
func kill(t *testing.T, m *medium.Medium) *medium.Medium {
	t.Helper()
	must(t, m.Arm(1, 0), api.OK)
	m.Append(nil)
	return m
}

// coded is a frame's record by picture.
func coded(t *testing.T, f api.Frame, c api.Config) api.Coded {
	t.Helper()
	x, e := picture.Encode(f, c)
	must(t, e, api.OK)
	return x
}

// laid is a reel of records, by the layer below.
func laid(t *testing.T, l api.Label, finished bool, records ...[]byte) *medium.Medium {
	t.Helper()
	m := medium.New()
	w, e := reel.Create(m, l)
	must(t, e, api.OK)
	for _, b := range records {
		_, e := w.Add(b)
		must(t, e, api.OK)
	}
	if finished {
		_, e := w.Finish()
		must(t, e, api.OK)
	}
	return m
}

// linked is a reel of records of any bytes, which the layer below would not all take.
func linked(t *testing.T, records ...[]byte) *medium.Medium {
	t.Helper()
	m := laid(t, label(), false)
	for i, b := range records {
		m.Append(linkOf(i, len(b)))
		m.Append(b)
	}
	return m
}

// linkOf is the link of a record of so many bytes, by chapter 16's words.
func linkOf(number, length int) []byte {
	b := append([]byte("LINK"), byte(number>>24), byte(number>>16), byte(number>>8), byte(number), byte(length>>24), byte(length>>16), byte(length>>8), byte(length))
	s := sum(b)
	return append(b, byte(s>>24), byte(s>>16), byte(s>>8), byte(s))
}

// sum is chapter 3's, bit by bit.
func sum(b []byte) uint32 {
	state := ^uint32(0)
	for _, v := range b {
		state ^= uint32(v) << 24
		for range 8 {
			if state>>31 == 1 {
				state = state<<1 ^ 0x04c11db7
			} else {
				state <<= 1
			}
		}
	}
	return ^state
}

// recorder is a new one over a medium.
func recorder(t *testing.T, m *medium.Medium) *session.Recorder {
	t.Helper()
	r, e := session.Record(m)
	if r == nil || e != api.OK {
		t.Fatal("Record:", r, e)
	}
	return r
}

// begun is a recorder that is open on a new medium, with a configuration.
func begun(t *testing.T, c api.Config) (*medium.Medium, *session.Recorder) {
	t.Helper()
	m := medium.New()
	r := recorder(t, m)
	must(t, r.Open(label()), api.OK)
	must(t, r.Set(c), api.OK)
	return m, r
}

// writes lays frames down and holds what is answered against picture's and reel's words.
func writes(t *testing.T, m *medium.Medium, r *session.Recorder, c api.Config, frames ...api.Frame) {
	t.Helper()
	old, e := reel.Open(m)
	must(t, e, api.OK)
	for i, f := range frames {
		x := coded(t, f, c)
		want := api.Written{Receipt: api.Receipt{Number: old.Count() + i, At: m.Size() + 16, Length: len(x.Bytes)}, Step: x.Step, Rung: x.Rung}
		got, e := r.Write(f)
		if got != want || e != api.OK {
			t.Fatalf("Write: %+v, %v; not %+v", got, e, want)
		}
		b := m.Bytes()
		if !bytes.Equal(b[got.Receipt.At:], x.Bytes) {
			t.Fatal("another record")
		}
	}
}

// recorded is a reel of frames, by a recorder.
func recorded(t *testing.T, c api.Config, finished bool, frames ...api.Frame) *medium.Medium {
	t.Helper()
	m, r := begun(t, c)
	writes(t, m, r, c, frames...)
	if finished {
		must(t, r.Finish(), api.OK)
	}
	return m
}

// row is so many frames of a shape, unlike one another.
func row(s api.Shape, many int) []api.Frame {
	c := chance(17 * many)
	var list []api.Frame
	for range many {
		list = append(list, noisy(&c, s))
	}
	return list
}

// player is one of a medium's reel, with a limit that no frame is above.
func player(t *testing.T, m *medium.Medium) *session.Player {
	t.Helper()
	p, e := session.Play(m, api.MaxSamples)
	if p == nil || e != api.OK {
		t.Fatal("Play:", p, e)
	}
	return p
}

// tells looks whether a medium's player tells just these frames, all slices sound, each sample within the tolerances.
func tells(t *testing.T, m *medium.Medium, far api.Rung, frames ...api.Frame) {
	t.Helper()
	p := player(t, m)
	if p.Count() != len(frames) || p.At() != 0 {
		t.Fatalf("%d frames at %d, not %d", p.Count(), p.At(), len(frames))
	}
	for i, f := range frames {
		g, report, e := p.Next()
		must(t, e, api.OK)
		near(t, f, g, far)
		if slices.ContainsFunc(report.Marks, func(k api.Mark) bool { return k != api.Sound }) || len(report.Marks) != report.Head.Slices {
			t.Fatal(i, report)
		}
	}
	if _, _, e := p.Next(); e != api.ErrSessionSeek || p.At() != len(frames) {
		t.Fatal(e, p.At())
	}
}

// near looks whether a frame is within tolerances of the one that was handed in.
func near(t *testing.T, f, g api.Frame, far api.Rung) {
	t.Helper()
	apart, e := plane.Apart(f, g)
	must(t, e, api.OK)
	for p := range apart {
		if apart[p] > far[p] {
			t.Fatal(apart, "and not", far)
		}
	}
}

// isDone looks whether a recorder takes nothing any more, and leaves the medium as it is.
func isDone(t *testing.T, m *medium.Medium, r *session.Recorder) {
	t.Helper()
	was := m.Bytes()
	for range 2 {
		must(t, r.Open(label()), api.ErrSessionState)
		must(t, r.Open(api.Label{}), api.ErrSessionState)
		must(t, r.Continue(), api.ErrSessionState)
		must(t, r.Set(plain()), api.ErrSessionState)
		must(t, r.Set(api.Config{}), api.ErrSessionState)
		refused(t, r, flat(small(), 1), api.ErrSessionState)
		refused(t, r, api.Frame{}, api.ErrSessionState)
		must(t, r.Finish(), api.ErrSessionState)
	}
	if !bytes.Equal(m.Bytes(), was) {
		t.Fatal("refused, and changed something")
	}
}

// refused looks whether a Write is, and tells nothing else.
func refused(t *testing.T, r *session.Recorder, f api.Frame, want api.Errno) {
	t.Helper()
	if x, e := r.Write(f); x != (api.Written{}) || e != want {
		t.Fatalf("Write: %+v, %v; not %v", x, e, want)
	}
}

// as looks whether a medium's bytes are these.
func as(t *testing.T, m *medium.Medium, want []byte) {
	t.Helper()
	if b := m.Bytes(); !bytes.Equal(b, want) {
		t.Fatalf("%d bytes, not %d, or other ones", len(b), len(want))
	}
}
