package session_test

import (
	"slices"
	"sync"
	"testing"

	"dailies/api"
	"dailies/bits"
	"dailies/medium"
	"dailies/plane"
	"dailies/session"
)

// ladder is rungs as chance has them, for a shape.
func ladder(c *chance, s api.Shape) []api.Rung {
	var list []api.Rung
	for range 1 + c.below(4) {
		rung := api.Rung{c.below(64), c.below(64), c.below(64), 0}
		if c.below(3) == 0 {
			rung = api.Rung{}
		}
		if s.Alpha {
			rung[api.Alpha] = c.below(64)
		}
		list = append(list, rung)
	}
	return list
}

// P17.1, T1: whatever is written, by whatever configuration that may be, is told: of the same shape, all slices sound, each sample within the tolerance of the rung that Write told, which is one of the ladder; by any limit that is not below its samples.
func TestP17_1WhatIsWrittenIsTold(t *testing.T) {
	c := chance(171)
	steps := map[int]int{}
	for range 60 {
		s := api.Shape{Width: 1 + c.below(50), Height: 1 + c.below(40), Depth: 10 + 2*c.below(2), Alpha: c.below(2) == 0}
		m := medium.New()
		r := recorder(t, m)
		must(t, r.Open(label()), api.OK)
		var frames []api.Frame
		var rungs []api.Rung
		for range 1 + c.below(4) {
			config := api.Config{SliceW: 16 + 2*c.below(9), SliceH: 16 + c.below(17), Ladder: ladder(&c, s), Parity: c.below(4)}
			must(t, r.Set(config), api.OK)
			f := noisy(&c, s)
			free := coded(t, f, config)
			if c.below(2) == 0 {
				config.Cap = len(free.Bytes) - c.below(60)
				must(t, r.Set(config), api.OK)
			}
			x, e := r.Write(f)
			if e == api.ErrCap && config.Cap > 0 {
				continue
			}
			must(t, e, api.OK)
			if x.Receipt.Number != len(frames) || x.Rung != config.Ladder[x.Step] || config.Cap > 0 && x.Receipt.Length > config.Cap {
				t.Fatal(x)
			}
			steps[x.Step]++
			frames, rungs = append(frames, f), append(rungs, x.Rung)
		}
		p, e := session.Play(m, samples(s))
		must(t, e, api.OK)
		if p.Count() != len(frames) {
			t.Fatal(p.Count())
		}
		for i, f := range frames {
			g, report, e := p.Next()
			must(t, e, api.OK)
			near(t, f, g, rungs[i])
			if g.Shape != s || report.Head.Rung != rungs[i] || slices.Contains(report.Marks, api.Lost) || slices.Contains(report.Marks, api.Mended) {
				t.Fatal(report)
			}
			if rungs[i] == (api.Rung{}) && !plane.Same(f, g) {
				t.Fatal("tolerance 0, and another frame")
			}
		}
	}
	if steps[0] < 20 || steps[1] < 5 {
		t.Fatal("too few steps:", steps)
	}
}

// P17.1: what was written is told behind a medium's death in a later Write, and behind Continue, over and over.
func TestP17_1BehindDeathAndContinue(t *testing.T) {
	c := chance(1712)
	for range 20 {
		m := medium.New()
		r := recorder(t, m)
		must(t, r.Open(label()), api.OK)
		s := shapes()[c.below(len(shapes()))]
		var frames []api.Frame
		var rungs []api.Rung
		for range 12 {
			config := by(c.below(3), ladder(&c, s)...)
			must(t, r.Set(config), api.OK)
			f := noisy(&c, s)
			size := len(coded(t, f, config).Bytes) + 16
			if c.below(3) > 0 {
				x, e := r.Write(f)
				must(t, e, api.OK)
				frames, rungs = append(frames, f), append(rungs, x.Rung)
			} else {
				must(t, m.Arm(1, c.below(size)), api.OK)
				refused(t, r, f, api.ErrMediumDead)
				m.Revive()
				r = recorder(t, m)
				must(t, r.Continue(), api.OK)
			}
			p := player(t, m)
			if p.Count() != len(frames) {
				t.Fatal(p.Count(), len(frames))
			}
			for i, f := range frames {
				g, report, e := p.Next()
				must(t, e, api.OK)
				near(t, f, g, rungs[i])
				if slices.Max(report.Marks) != api.Sound {
					t.Fatal(report.Marks)
				}
			}
		}
	}
}

// spelling is a frame of 16 by 16 whose payload has these bytes within: noise, which is told raw, in the midst of which they stand.
func spelling(c *chance, text []byte) api.Frame {
	s := api.Shape{Width: 16, Height: 16, Depth: 10}
	f := painted(s, func(int, int) int { return c.below(1024) })
	b := make([]byte, 320)
	for i := range b {
		b[i] = byte(c.below(256))
	}
	copy(b[20:], text)
	r := bits.NewReader(b)
	for i := range f.Planes[0] {
		v, e := r.Get(10)
		if e != api.OK {
			panic(e)
		}
		f.Planes[0][i] = uint16(v)
	}
	return f
}

// T8: cut off anywhere, though the payloads spell links, ends and whole reels, a reel has just the frames that lie whole ahead of the cut, and goes on to the bytes that it would have had.
func TestT8CutOffAnywhere(t *testing.T) {
	c := chance(8)
	config := by(0, api.Rung{})
	other := laid(t, label(), true, coded(t, flat(api.Shape{Width: 1, Height: 1, Depth: 10}, 1), config).Bytes).Bytes()
	end := laid(t, label(), true).Bytes()[labelSize:]
	texts := [][]byte{append(linkOf(1, 30), linkOf(2, 0)...), append(slices.Clone(end), linkOf(1, 2)...), other, linkOf(2, 5)}
	var frames []api.Frame
	for _, text := range texts {
		frames = append(frames, spelling(&c, text))
	}
	m := recorded(t, config, true, frames...)
	whole := m.Bytes()
	list := receipts(t, m)
	for i, text := range texts {
		if !contains(whole[list[i].At:][:list[i].Length], text) {
			t.Fatal("the test is none: the payload does not spell it")
		}
	}
	for cut := range len(whole) + 1 {
		m := load(t, whole[:cut])
		if cut < labelSize {
			if p, e := session.Play(m, api.MaxSamples); p != nil || e != api.ErrReelNone {
				t.Fatal(cut, p, e)
			}
			must(t, recorder(t, m).Continue(), api.ErrReelNone)
			as(t, m, whole[:cut])
			continue
		}
		there := 0
		for _, x := range list {
			if x.At+x.Length <= cut {
				there++
			}
		}
		if p := player(t, m); p.Count() != there {
			t.Fatal(cut, p.Count(), there)
		}
		if cut%16 == 0 || cut == len(whole) {
			tells(t, m, api.Rung{}, frames[:there]...)
		}
		r := recorder(t, m)
		if cut == len(whole) {
			must(t, r.Continue(), api.ErrReelDone)
			continue
		}
		must(t, r.Continue(), api.OK)
		if cut%16 == 0 || cut < 80 {
			must(t, r.Set(config), api.OK)
			writes(t, m, r, config, frames[there:]...)
			must(t, r.Finish(), api.OK)
			as(t, m, whole)
		} else {
			as(t, m, recorded(t, config, false, frames[:there]...).Bytes())
		}
	}
}

func contains(b, text []byte) bool {
	for i := range b {
		if len(b)-i >= len(text) && slices.Equal(b[i:i+len(text)], text) {
			return true
		}
	}
	return false
}

// P17.2: calls of a player that are refused change nothing of what the others answer.
func TestP17_2RefusedCallsOfAPlayer(t *testing.T) {
	frames := row(small(), 3)
	m := recorded(t, plain(), true, frames...)
	p := player(t, m)
	for i, f := range frames {
		for _, k := range odd() {
			must(t, p.Seek(k), api.ErrSessionSeek)
			_, _, e := p.Slice(k)
			must(t, e, api.ErrViewSlice)
			_, _, e = p.Region(api.Rect{X: k, Y: k, W: k, H: k})
			must(t, e, api.ErrViewRegion)
		}
		again(t, m, p, m, 0, api.ErrReelThere)
		kill(t, m)
		nothing(t, m, p, api.ErrMediumDead)
		m.Revive()
		g, _, e := p.Next()
		must(t, e, api.OK)
		near(t, f, g, api.Rung{})
		if p.At() != i+1 || p.Label() != label() || p.Count() != 3 {
			t.Fatal(p.At())
		}
	}
}

// P17.4: several players over one medium, each with a place and a limit of its own, asked in turn.
func TestP17_4PlayersOverOneMedium(t *testing.T) {
	c := chance(1744)
	frames := row(small(), 5)
	m := recorded(t, plain(), true, frames...)
	const many = 6
	var players [many]*session.Player
	var at [many]int
	limits := [many]int{api.MaxSamples, 0, samples(small()), samples(small()) - 1, api.MaxSamples, api.MaxSamples + 1}
	want := [many]api.Errno{1: api.ErrLimit, 3: api.ErrLimit, 5: api.ErrArg}
	for i := range many {
		p, e := session.Play(m, limits[i])
		must(t, e, api.OK)
		players[i] = p
	}
	for range 400 {
		i := c.below(many)
		p := players[i]
		switch c.below(4) {
		case 0:
			at[i] = c.below(6)
			must(t, p.Seek(at[i]), api.OK)
		case 1:
			_, _, e := p.Slice(c.below(4))
			must(t, e, map[bool]api.Errno{true: api.ErrSessionSeek, false: want[i]}[at[i] == 5])
		case 2:
			to := medium.New()
			if n, e := p.Regenerate(to); e != want[i] || n != map[bool]int{true: 5}[e == api.OK] {
				t.Fatal(n, e)
			}
		default:
			f, _, e := p.Next()
			must(t, e, map[bool]api.Errno{true: api.ErrSessionSeek, false: want[i]}[at[i] == 5])
			if e == api.OK {
				near(t, frames[at[i]], f, api.Rung{})
				at[i]++
			}
		}
		for k := range many {
			if players[k].At() != at[k] || players[k].Count() != 5 {
				t.Fatal(k, players[k].At(), at[k])
			}
		}
	}
}

// P17.4, P4: players over one medium, and recorders over media of their own, each by a hand of its own, tell and make what they do alone.
func TestP17_4ManyHands(t *testing.T) {
	frames := row(small(), 4)
	m := recorded(t, plain(), true, frames...)
	whole := m.Bytes()
	var join sync.WaitGroup
	var right [8]bool
	for i := range right {
		join.Go(func() {
			p, e := session.Play(m, api.MaxSamples)
			ok := e == api.OK
			for k := range 8 {
				ok = ok && p.Seek((i+k)%4) == api.OK
				f, _, e := p.Next()
				ok = ok && e == api.OK && plane.Same(f, frames[(i+k)%4])
			}
			to := medium.New()
			n, e := p.Regenerate(to)
			ok = ok && n == 4 && e == api.OK && slices.Equal(to.Bytes(), whole)
			own := medium.New()
			r, _ := session.Record(own)
			ok = ok && r.Open(label()) == api.OK && r.Set(plain()) == api.OK
			for _, f := range frames {
				_, e := r.Write(f)
				ok = ok && e == api.OK
			}
			right[i] = ok && r.Finish() == api.OK && slices.Equal(own.Bytes(), whole)
		})
	}
	join.Wait()
	if slices.Contains(right[:], false) {
		t.Fatal(right)
	}
	as(t, m, whole)
}
