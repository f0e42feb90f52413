package conform_test

import (
	"bytes"
	"maps"
	"math"
	"slices"
	"testing"

	"dailies/api"
	"dailies/conform"
	"dailies/cuts"
	"dailies/medium"
	"dailies/picture"
	"dailies/plane"
	"dailies/reel"
	"dailies/view"
)

// chance tells numbers that look as if by chance, the same ones each time.
type chance uint64

func (c *chance) below(n int) int {
	*c = *c*6364136223846793005 + 1442695040888963407
	return int(uint64(*c)>>33) % n
}

// odd are numbers that are no parts, and no limit.
func odd() []int {
	return []int{-1, -2, math.MinInt32, -1 << 32, math.MinInt + 1, math.MinInt}
}

// great are numbers that are too many parts.
func great() []int {
	return []int{102, 103, 255, 256, 1<<31 - 1, 1 << 31, 1 << 32, 1<<32 + 1, math.MaxInt - 1, math.MaxInt}
}

// perDay is how many frames a day of each rate has, as chapter 18 writes it out.
func perDay(r api.Rate) int {
	return map[api.Rate]int{1: 2073600, 2: 2160000, 3: 2592000, 4: 2589408, 5: 4320000, 6: 5184000, 7: 5178816}[r]
}

// shapes are some that may be; by sides of 16 the first one has four slices.
func shapes() []api.Shape {
	return []api.Shape{
		{Width: 20, Height: 18, Depth: 10},
		{Width: 20, Height: 18, Depth: 12},
		{Width: 20, Height: 18, Depth: 10, Alpha: true},
		{Width: 18, Height: 20, Depth: 10},
		{Width: 20, Height: 17, Depth: 10},
		{Width: 1, Height: 1, Depth: 10},
		{Width: 33, Height: 17, Depth: 12, Alpha: true},
	}
}

// small is the shape that most tests take.
func small() api.Shape { return shapes()[0] }

// tiny is a shape of which records are short.
func tiny() api.Shape { return api.Shape{Width: 2, Height: 1, Depth: 10} }

// samples is how many all planes of a shape have.
func samples(s api.Shape) int {
	n, e := plane.Samples(s)
	if e != api.OK {
		panic(e)
	}
	return n
}

// flat is a frame all of whose samples are one.
func flat(s api.Shape, v int) api.Frame {
	return painted(s, func(int, int) int { return v })
}

// noisy is a frame with samples as chance has them, above a slope, by a noise that is its own.
func noisy(c *chance, s api.Shape) api.Frame {
	base, slope, noise := c.below(1<<s.Depth), c.below(5), 1+c.below(60)
	return painted(s, func(_, i int) int { return base + slope*i/3 + c.below(noise) })
}

// painted is a frame whose samples are told by plane and place, kept to the depth.
func painted(s api.Shape, sample func(p, i int) int) api.Frame {
	f, e := plane.New(s)
	if e != api.OK {
		panic(e)
	}
	for p, list := range f.Planes {
		for i := range list {
			list[i] = uint16(min(max(sample(p, i), 0), 1<<s.Depth-1))
		}
	}
	return f
}

// noFrames are frames that may not be, each with its error, of the shape that most tests take, or near it.
func noFrames() map[api.Errno]api.Frame {
	high := flat(small(), 7)
	high.Planes[2][3] = 1024
	short := flat(small(), 7)
	short.Planes[1] = short.Planes[1][1:]
	few := flat(small(), 7)
	few.Planes = few.Planes[:2]
	shapeless := flat(small(), 7)
	shapeless.Shape.Depth = 11
	return map[api.Errno]api.Frame{api.ErrPlaneShape: shapeless, api.ErrPlanePlanes: few, api.ErrPlaneSize: short, api.ErrPlaneSample: high}
}

// by is a configuration of slices of 16 by 16 with no cap.
func by(parity int, ladder ...api.Rung) api.Config {
	return api.Config{SliceW: 16, SliceH: 16, Ladder: ladder, Parity: parity}
}

// plain is the configuration that most tests take: nothing is lost.
func plain() api.Config { return by(1, api.Rung{}) }

// must looks whether an answer is the one that a test is made for.
func must(t *testing.T, e, want api.Errno) {
	t.Helper()
	if e != want {
		t.Fatal(e, "and not", want)
	}
}

// as looks whether a medium's bytes are these.
func as(t *testing.T, m *medium.Medium, want []byte) {
	t.Helper()
	if b := m.Bytes(); !bytes.Equal(b, want) {
		t.Fatalf("%d bytes, not %d, or other ones", len(b), len(want))
	}
}

// load is a medium that has these bytes.
func load(t *testing.T, b []byte) *medium.Medium {
	t.Helper()
	m, e := medium.Load(b)
	must(t, e, api.OK)
	return m
}

// kill lets a medium be dead, with the bytes that it has.
func kill(t *testing.T, m *medium.Medium) *medium.Medium {
	t.Helper()
	must(t, m.Arm(1, 0), api.OK)
	m.Append(nil)
	return m
}

// coded is a frame's record by picture.
func coded(t *testing.T, f api.Frame, c api.Config) []byte {
	t.Helper()
	x, e := picture.Encode(f, c)
	must(t, e, api.OK)
	return x.Bytes
}

// laid is a reel of records.
func laid(t *testing.T, l api.Label, finished bool, records ...[]byte) *medium.Medium {
	t.Helper()
	m := medium.New()
	w, e := reel.Create(m, l)
	must(t, e, api.OK)
	for _, b := range records {
		_, e := w.Add(b)
		must(t, e, api.OK)
	}
	if finished {
		_, e := w.Finish()
		must(t, e, api.OK)
	}
	return m
}

// linked is a reel of records of any bytes, which the layer below would not all take.
func linked(t *testing.T, l api.Label, records ...[]byte) *medium.Medium {
	t.Helper()
	b := laid(t, l, false).Bytes()
	for i, record := range records {
		b = append(append(b, linkOf(i, len(record))...), record...)
	}
	return load(t, b)
}

// hollow is a reel of so many records without a byte: it has numbers, and nothing to look at.
func hollow(t *testing.T, l api.Label, n int) *reel.Reel {
	t.Helper()
	return open(t, linked(t, l, make([][]byte, n)...))
}

// linkOf is the link of a record of so many bytes, by chapter 16's words.
func linkOf(number, length int) []byte {
	return summed([]byte{'L', 'I', 'N', 'K', byte(number >> 24), byte(number >> 16), byte(number >> 8), byte(number), byte(length >> 24), byte(length >> 16), byte(length >> 8), byte(length)})
}

// summed is bytes and their sum by chapter 3's words, bit by bit.
func summed(b []byte) []byte {
	state := ^uint32(0)
	for _, v := range b {
		state ^= uint32(v) << 24
		for range 8 {
			if state>>31 == 1 {
				state = state<<1 ^ 0x04c11db7
			} else {
				state <<= 1
			}
		}
	}
	s := ^state
	return append(b, byte(s>>24), byte(s>>16), byte(s>>8), byte(s))
}

// open is a medium's reel.
func open(t *testing.T, m *medium.Medium) *reel.Reel {
	t.Helper()
	r, e := reel.Open(m)
	must(t, e, api.OK)
	return r
}

// store is media by names, and their reels.
type store struct {
	media map[string]*medium.Medium
	reels map[string]*reel.Reel
}

// storeOf opens media.
func storeOf(t *testing.T, media map[string]*medium.Medium) store {
	t.Helper()
	x := store{media, map[string]*reel.Reel{}}
	for name, m := range media {
		x.reels[name] = open(t, m)
	}
	return x
}

// stock is a store of the reels a (of Start 100, with 10 frames), b (of Start 0, with 8) and c (of Start 7, with 6), all of rate 25, each of noise that is its own.
func stock(t *testing.T, s api.Shape, c api.Config) store {
	t.Helper()
	return stockBy(t, s, map[string]api.Config{"a": c, "b": c, "c": c})
}

// stockBy is a stock each reel of which has a configuration of its own.
func stockBy(t *testing.T, s api.Shape, c map[string]api.Config) store {
	t.Helper()
	media := map[string]*medium.Medium{}
	noise := chance(20)
	for _, r := range []struct {
		name       string
		start, all int
	}{{"a", 100, 10}, {"b", 0, 8}, {"c", 7, 6}} {
		var records [][]byte
		for range r.all {
			records = append(records, coded(t, noisy(&noise, s), c[r.name]))
		}
		media[r.name] = laid(t, api.Label{Title: "reel " + r.name, Rate: api.Rate25, Start: r.start}, r.name != "b", records...)
	}
	return storeOf(t, media)
}

// listOf is a list of rate 25 with these events.
func listOf(events ...api.Event) api.CutList {
	return api.CutList{Title: "The Cut", Rate: api.Rate25, Events: events}
}

// cut and fade are events.
func cut(name string, in, out int) api.Event { return api.Event{Reel: name, In: in, Out: out} }

func fade(n int, name string, in, out int) api.Event {
	return api.Event{Reel: name, In: in, Out: out, Fade: n}
}

// spot is a frame of an event.
type spot struct{ event, frame int }

// timeline is which frames of which events stand at each place of what a list makes, by chapter 19's words: an event is laid down so that its first frames lie over the last ones of the event ahead.
func timeline(l api.CutList) [][]spot {
	var line [][]spot
	for i, e := range l.Events {
		at := len(line) - e.Fade
		for n := e.In; n < e.Out; n++ {
			if at == len(line) {
				line = append(line, nil)
			}
			line[at] = append(line[at], spot{i, n})
			at++
		}
	}
	return line
}

// planned is the steps of a list that can be made, each with its event, by K1's words.
func planned(l api.CutList, reels map[string]*reel.Reel) ([]conform.Step, []int) {
	steps, of := []conform.Step{}, []int{}
	record := func(x spot) (string, int) {
		name := l.Events[x.event].Reel
		return name, x.frame - reels[name].Label().Start
	}
	for _, spots := range timeline(l) {
		last := spots[len(spots)-1]
		event := l.Events[last.event]
		var s conform.Step
		s.Reel, s.Frame = record(spots[0])
		if len(spots) == 2 {
			s.Over, s.With = record(last)
			s.Part, s.Of = last.frame-event.In+1, event.Fade+1
		}
		steps, of = append(steps, s), append(of, last.event)
	}
	return steps, of
}

// refusal is what Plan says of a list and reels by K1's words: of which event, and which error; api.OK, if the list can be made.
func refusal(l api.CutList, reels map[string]*reel.Reel) (int, api.Errno) {
	if err := cuts.Check(l); err != nil {
		x := err.(*cuts.EventError)
		return x.Event, x.Err
	}
	for i, e := range l.Events {
		r, there := reels[e.Reel]
		if !there || r == nil {
			return i, api.ErrConformReel
		}
		if r.Label().Rate != l.Rate {
			return i, api.ErrConformRate
		}
		first, behind := r.Label().Start, r.Label().Start+r.Count()
		if e.In < first || e.Out > behind {
			return i, api.ErrConformRange
		}
	}
	return 0, api.OK
}

// mixture is what Mix makes of two samples: the nearest whole number, of two that are as near the greater one.
func mixture(a, b uint16, part, of int) uint16 {
	exact := int(a)*(of-part) + int(b)*part
	v := exact / of
	if 2*(exact%of) >= of {
		v++
	}
	return uint16(v)
}

// mixedFrames is what Mix makes of two frames of one shape.
func mixedFrames(a, b api.Frame, part, of int) api.Frame {
	return painted(a.Shape, func(p, i int) int { return int(mixture(a.Planes[p][i], b.Planes[p][i], part, of)) })
}

// outcome is what Build answers, and what then lies on the medium.
type outcome struct {
	built api.Built
	event int
	fault api.Errno
	bytes []byte
}

// foretold is what comes of Build onto an empty medium, by K3's words: each step looked at by itself.
func foretold(t *testing.T, l api.CutList, x store, c api.Config, limit int) outcome {
	t.Helper()
	if event, fault := refusal(l, x.reels); fault != api.OK {
		return outcome{event: event, fault: fault}
	}
	m := medium.New()
	w, e := reel.Create(m, api.Label{Title: l.Title, Rate: l.Rate, Start: 0})
	must(t, e, api.OK)
	var n api.Built
	steps, of := planned(l, x.reels)
	for i, s := range steps {
		record, e := recordOf(s, x, c, limit)
		if e == api.OK {
			_, e = w.Add(record)
		}
		if e != api.OK {
			return outcome{event: of[i], fault: e, bytes: m.Bytes()}
		}
		n.Frames++
		if s.Over == "" {
			n.Copied++
		} else {
			n.Mixed++
		}
	}
	_, e = w.Finish()
	must(t, e, api.OK)
	return outcome{built: n, bytes: m.Bytes()}
}

// recordOf is the record of a step, by K3's words.
func recordOf(s conform.Step, x store, c api.Config, limit int) ([]byte, api.Errno) {
	if s.Over == "" {
		place, e := x.reels[s.Reel].Receipt(s.Frame)
		if e != api.OK {
			return nil, e
		}
		if place.At+place.Length > x.media[s.Reel].Size() {
			return nil, api.ErrMediumRange
		}
		if x.media[s.Reel].Dead() {
			return nil, api.ErrMediumDead
		}
		return x.media[s.Reel].Bytes()[place.At : place.At+place.Length], api.OK
	}
	var frames [2]api.Frame
	lost := false
	for i, name := range []string{s.Reel, s.Over} {
		src, e := x.reels[name].Record([]int{s.Frame, s.With}[i])
		if e != api.OK {
			return nil, e
		}
		f, report, e := view.Whole(src, limit)
		if e != api.OK {
			return nil, e
		}
		frames[i] = f
		lost = lost || slices.Contains(report.Marks, api.Lost)
	}
	if lost {
		return nil, api.ErrSessionDamage
	}
	if frames[0].Shape != frames[1].Shape {
		return nil, api.ErrConformShape
	}
	y, e := picture.Encode(mixedFrames(frames[0], frames[1], s.Part, s.Of), c)
	return y.Bytes, e
}

// says looks whether an error is that of a number, told of an event; or nil, if the number is none.
func says(t *testing.T, err error, event int, fault api.Errno) {
	t.Helper()
	if fault == api.OK {
		if err != nil {
			t.Fatal("refused:", err)
		}
		return
	}
	x, is := err.(*cuts.EventError)
	if !is || x == nil || x.Event != event || x.Err != fault {
		t.Fatalf("%v, and not %v of event %d", err, fault, event)
	}
}

// plans looks whether Plan tells what K1 says, and tells the steps.
func plans(t *testing.T, l api.CutList, reels map[string]*reel.Reel) []conform.Step {
	t.Helper()
	event, fault := refusal(l, reels)
	steps, err := conform.Plan(l, reels)
	says(t, err, event, fault)
	if fault != api.OK {
		if len(steps) > 0 {
			t.Fatal("refused, and has steps")
		}
		return nil
	}
	if want, _ := planned(l, reels); !slices.Equal(steps, want) {
		t.Fatalf("steps\n%v, and not\n%v", steps, want)
	}
	return steps
}

// unplanned looks whether Plan refuses a list so, and the words, too.
func unplanned(t *testing.T, l api.CutList, reels map[string]*reel.Reel, event int, fault api.Errno) {
	t.Helper()
	plans(t, l, reels)
	if of, e := refusal(l, reels); of != event || e != fault {
		t.Fatalf("the words say %v of event %d, and not %v of event %d", e, of, fault, event)
	}
}

// builds looks whether Build onto an empty medium answers, and lays down, what K3 says, and whether nothing of the reels, the list and the map is another than it was; it tells the outcome.
func builds(t *testing.T, l api.CutList, x store, c api.Config, limit int) outcome {
	t.Helper()
	want := foretold(t, l, x, c, limit)
	out := medium.New()
	unchanged := watch(t, l, x)
	built, err := conform.Build(l, x.reels, c, limit, out)
	says(t, err, want.event, want.fault)
	if built != want.built {
		t.Fatalf("built %+v, and not %+v", built, want.built)
	}
	as(t, out, want.bytes)
	unchanged()
	return want
}

// unbuilt looks whether Build refuses a list so, and the words, too; and how many records are laid down.
func unbuilt(t *testing.T, l api.CutList, x store, c api.Config, limit int, event int, fault api.Errno, records int) {
	t.Helper()
	y := builds(t, l, x, c, limit)
	if y.event != event || y.fault != fault {
		t.Fatalf("the words say %v of event %d, and not %v of event %d", y.fault, y.event, fault, event)
	}
	if r := open(t, load(t, y.bytes)); r.Count() != records || r.Finished() {
		t.Fatalf("%d records, and not %d", r.Count(), records)
	}
}

// watch tells a function that looks whether nothing of the reels, their media's bytes, the list and the map has changed since.
func watch(t *testing.T, l api.CutList, x store) func() {
	t.Helper()
	was := l
	was.Events = slices.Clone(l.Events)
	names := maps.Clone(x.reels)
	type side struct {
		label    api.Label
		finished bool
		receipts []api.Receipt
	}
	sides := func() map[string]side {
		all := map[string]side{}
		for name, r := range x.reels {
			if r == nil {
				continue
			}
			y := side{label: r.Label(), finished: r.Finished()}
			for i := range r.Count() {
				receipt, _ := r.Receipt(i)
				y.receipts = append(y.receipts, receipt)
			}
			all[name] = y
		}
		return all
	}
	before := sides()
	content := map[string][]byte{}
	dead := map[string]bool{}
	for name, m := range x.media {
		content[name], dead[name] = m.Bytes(), m.Dead()
	}
	return func() {
		t.Helper()
		if l.Title != was.Title || l.Rate != was.Rate || !slices.Equal(l.Events, was.Events) {
			t.Fatal("the list is another one")
		}
		if !maps.Equal(x.reels, names) {
			t.Fatal("the map is another one")
		}
		now := sides()
		for name, y := range before {
			z := now[name]
			if y.label != z.label || y.finished != z.finished || !slices.Equal(y.receipts, z.receipts) {
				t.Fatal("a reel is another one:", name)
			}
		}
		for name, m := range x.media {
			if m.Dead() != dead[name] {
				t.Fatal("a medium has died, or lives:", name)
			}
			as(t, m, content[name])
		}
	}
}
