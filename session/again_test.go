package session_test

import (
	"slices"
	"testing"

	"dailies/api"
	"dailies/medium"
	"dailies/picture"
	"dailies/plane"
	"dailies/reel"
	"dailies/session"
)

// remade makes a player's reel again, onto a new medium, and looks whether neither the player nor its medium has changed by it.
func remade(t *testing.T, m *medium.Medium, p *session.Player, want int, fault api.Errno) *medium.Medium {
	t.Helper()
	to := medium.New()
	again(t, m, p, to, want, fault)
	return to
}

// again is remade onto a medium that is there.
func again(t *testing.T, m *medium.Medium, p *session.Player, to *medium.Medium, want int, fault api.Errno) {
	t.Helper()
	at, was := p.At(), m.Bytes()
	if n, e := p.Regenerate(to); n != want || e != fault {
		t.Fatalf("Regenerate: %d, %v; not %d, %v", n, e, want, fault)
	}
	if p.At() != at {
		t.Fatal("Regenerate went from", at, "to", p.At())
	}
	if m != to {
		as(t, m, was)
	}
}

// receipts are where a medium's records lie.
func receipts(t *testing.T, m *medium.Medium) []api.Receipt {
	t.Helper()
	r, e := reel.Open(m)
	must(t, e, api.OK)
	var list []api.Receipt
	for x := range r.All() {
		list = append(list, x)
	}
	return list
}

// R9: what is no medium, or has bytes, or is dead, is refused; nothing is changed.
func TestR9RegenerateRefused(t *testing.T) {
	m := recorded(t, plain(), true, row(small(), 2)...)
	p := player(t, m)
	if n, e := p.Regenerate(nil); n != 0 || e != api.ErrArg {
		t.Fatal(n, e)
	}
	for _, to := range []*medium.Medium{m, load(t, []byte("x")), laid(t, label(), false), kill(t, load(t, []byte("x")))} {
		was := to.Bytes()
		again(t, m, p, to, 0, api.ErrReelThere)
		as(t, to, was)
	}
	to := kill(t, medium.New())
	again(t, m, p, to, 0, api.ErrMediumDead)
	as(t, to, nil)
	to.Revive()
	again(t, m, p, to, 2, api.OK)
	as(t, to, m.Bytes())
	again(t, m, p, to, 0, api.ErrReelThere)

	// Whether the new medium takes it is asked ahead of the old one's records.
	kill(t, m)
	again(t, m, p, to, 0, api.ErrReelThere)
	again(t, m, p, kill(t, medium.New()), 0, api.ErrMediumDead)
	if n, e := p.Regenerate(nil); n != 0 || e != api.ErrArg {
		t.Fatal(n, e)
	}
	again(t, m, p, m, 0, api.ErrReelThere)
}

// R9, P17.3, T10: reels of all shapes and configurations, finished and not, are made again byte for byte, from whatever place the player has, generation after generation.
func TestP17_3GenerationAfterGeneration(t *testing.T) {
	c := chance(173)
	for _, s := range shapes() {
		for many := range 4 {
			for _, finished := range []bool{false, true} {
				m := medium.New()
				r := recorder(t, m)
				must(t, r.Open(label()), api.OK)
				for range many {
					config := by(c.below(4), api.Rung{}, api.Rung{1, 0, 2, 0}, api.Rung{9, 30, 3, 0}, api.Rung{63, 63, 63, 0})
					config.SliceW += 2 * c.below(5)
					config.SliceH += c.below(5)
					f := noisy(&c, s)
					config.Cap = len(coded(t, f, by(config.Parity, config.Ladder[c.below(4)])).Bytes) + 200
					must(t, r.Set(config), api.OK)
					writes(t, m, r, config, f)
				}
				if finished {
					must(t, r.Finish(), api.OK)
				}
				old := m
				for generation := range 4 {
					p := player(t, old)
					must(t, p.Seek(generation%(many+1)), api.OK)
					old = remade(t, old, p, many, api.OK)
					as(t, old, m.Bytes())
				}
			}
		}
	}
}

// R9: of a reel that goes on behind Play, or is finished behind it, what there was when it was opened is made again.
func TestR9TheReelAsItWasOpened(t *testing.T) {
	frames := row(small(), 3)
	m, r := begun(t, plain())
	writes(t, m, r, plain(), frames[:2]...)
	was := m.Bytes()
	p := player(t, m)
	writes(t, m, r, plain(), frames[2])
	as(t, remade(t, m, p, 2, api.OK), was)
	must(t, r.Finish(), api.OK)
	as(t, remade(t, m, p, 2, api.OK), was)
	done := player(t, m)
	full := m.Bytes()
	// Its end being cut off behind Play, it was finished still; so with the label that was written over.
	must(t, m.Truncate(len(full)-1), api.OK)
	must(t, m.Overwrite(0, make([]byte, labelSize)), api.OK)
	as(t, remade(t, m, done, 3, api.OK), full)
}

// R9: a reel that was cut off is made again as far as it goes.
func TestR9OfAReelThatWasCutOff(t *testing.T) {
	frames := row(small(), 3)
	full := recorded(t, plain(), true, frames...).Bytes()
	for cut := labelSize; cut <= len(full); cut += 13 {
		m := load(t, full[:cut])
		there := 0
		for _, x := range receipts(t, m) {
			there = x.Number + 1
		}
		to := remade(t, m, player(t, m), there, api.OK)
		as(t, to, recorded(t, plain(), cut == len(full), frames[:there]...).Bytes())
	}
}

// P17.3: damage that is mended does not count: the bytes are those that there were.
func TestP17_3Mended(t *testing.T) {
	frames := row(small(), 3)
	c := by(2, api.Rung{2, 2, 2, 0})
	whole := recorded(t, c, true, frames...).Bytes()
	for a := range 6 {
		for b := range 6 {
			m := load(t, whole)
			for _, x := range receipts(t, m) {
				// Of each record two of four payloads and two rows, others in each.
				spoil(t, m, x, (a+x.Number)%6)
				if (a+x.Number)%6 != (b+2*x.Number)%6 {
					spoil(t, m, x, (b+2*x.Number)%6)
				}
			}
			as(t, remade(t, m, player(t, m), 3, api.OK), whole)
		}
	}
}

// R9: a slice that is lost ends it at that record; those ahead lie on a reel that may be gone on with.
func TestR9Lost(t *testing.T) {
	frames := row(small(), 3)
	for parity := range 3 {
		c := by(parity, api.Rung{})
		whole := recorded(t, c, true, frames...).Bytes()
		for bad := range 3 {
			m := load(t, whole)
			// One more than can be mended, another slice first in each.
			for k := range parity + 1 {
				spoil(t, m, receipts(t, m)[bad], (bad+1+k)%4)
			}
			p := player(t, m)
			must(t, p.Seek(2), api.OK)
			to := remade(t, m, p, 0, api.ErrSessionDamage)
			ahead := recorded(t, c, false, frames[:bad]...).Bytes()
			as(t, to, ahead)
			r := recorder(t, to)
			must(t, r.Continue(), api.OK)
			must(t, r.Set(c), api.OK)
			writes(t, to, r, c, frames[bad:]...)
			must(t, r.Finish(), api.OK)
			as(t, to, whole)
		}
	}
}

// R9: a record that Record or view refuses ends it with that error, at that record, whatever the others are.
func TestR9RecordsThatAreRefused(t *testing.T) {
	frames := row(small(), 3)
	whole := recorded(t, plain(), true, frames...).Bytes()
	for bad := range 3 {
		ahead := recorded(t, plain(), false, frames[:bad]...).Bytes()
		for _, x := range []struct {
			at   int
			want api.Errno
		}{{0, api.ErrPictureHead}, {30, api.ErrPictureHead}, {32, api.ErrPictureTable}, {50, api.ErrPictureTable}} {
			m := load(t, whole)
			at := receipts(t, m)[bad].At + x.at
			must(t, m.Overwrite(at, []byte{whole[at] ^ 1}), api.OK)
			as(t, remade(t, m, player(t, m), 0, x.want), ahead)
		}
		// Cut off or dead behind Play.
		m := load(t, whole)
		p := player(t, m)
		x := receipts(t, m)[bad]
		must(t, m.Truncate(x.At+x.Length-1), api.OK)
		as(t, remade(t, m, p, 0, api.ErrMediumRange), ahead)
		kill(t, m)
		as(t, remade(t, m, p, 0, map[bool]api.Errno{true: api.ErrMediumRange, false: api.ErrMediumDead}[bad == 0]), laid(t, label(), false).Bytes())
	}
	// One that is above the limit, or with a limit that may not be; ahead of its damage.
	m := load(t, whole)
	spoil(t, m, receipts(t, m)[0], 0)
	spoil(t, m, receipts(t, m)[0], 1)
	for limit, want := range map[int]api.Errno{0: api.ErrLimit, samples(small()) - 1: api.ErrLimit, samples(small()): api.ErrSessionDamage, api.MaxSamples + 1: api.ErrArg} {
		p, e := session.Play(m, limit)
		must(t, e, api.OK)
		as(t, remade(t, m, p, 0, want), laid(t, label(), false).Bytes())
	}
}

// R9: a reel without records is made again by any limit.
func TestR9NoRecords(t *testing.T) {
	for _, finished := range []bool{false, true} {
		m := laid(t, label(), finished)
		for _, limit := range []int{0, api.MaxSamples + 1} {
			p, e := session.Play(m, limit)
			must(t, e, api.OK)
			as(t, remade(t, m, p, 0, api.OK), m.Bytes())
		}
	}
}

// R9: the new medium dies, in each of its Appends, of which any part stays; what was laid down by then stays, and may be gone on with, unless it died within the label.
func TestR9DeathOfTheNewMedium(t *testing.T) {
	frames := row(small(), 2)
	m := recorded(t, plain(), true, frames...)
	whole := m.Bytes()
	list := receipts(t, m)
	p := player(t, m)
	must(t, p.Seek(1), api.OK)
	ends := []int{0, labelSize, list[0].At + list[0].Length, list[1].At + list[1].Length, len(whole)}
	for n := 1; n < len(ends); n++ {
		size := ends[n] - ends[n-1]
		for _, keep := range []int{0, 1, 15, 16, 17, size / 2, size - 1, size, size + 1} {
			keep = min(keep, size+1)
			to := medium.New()
			must(t, to.Arm(n, keep), api.OK)
			again(t, m, p, to, 0, api.ErrMediumDead)
			kept := whole[:ends[n-1]+min(keep, size)]
			as(t, to, kept)
			to.Revive()
			r := recorder(t, to)
			if len(kept) < labelSize {
				must(t, r.Continue(), api.ErrReelNone)
				continue
			}
			if len(kept) == len(whole) {
				must(t, r.Continue(), api.ErrReelDone)
				continue
			}
			must(t, r.Continue(), api.OK)
			must(t, r.Set(plain()), api.OK)
			writes(t, to, r, plain(), frames[player(t, to).Count():]...)
			must(t, r.Finish(), api.OK)
			as(t, to, whole)
		}
	}
	// One that would die later than all of it does not.
	to := medium.New()
	must(t, to.Arm(5, 0), api.OK)
	again(t, m, p, to, 2, api.OK)
	as(t, to, whole)
}

// R9: of several errors the one of the record that comes first; of one record its own ahead of the new medium's.
func TestR9TheFirstError(t *testing.T) {
	frames := row(small(), 3)
	m := recorded(t, by(0, api.Rung{}), true, frames...)
	list := receipts(t, m)
	spoil(t, m, list[1], 0)
	must(t, m.Overwrite(list[2].At, []byte("X")), api.OK)
	p := player(t, m)
	for n, want := range map[int]api.Errno{1: api.ErrMediumDead, 2: api.ErrMediumDead, 3: api.ErrSessionDamage, 4: api.ErrSessionDamage} {
		to := medium.New()
		must(t, to.Arm(n, 0), api.OK)
		again(t, m, p, to, 0, want)
	}
}

// R9: the player's own medium, emptied behind Play, is a new one; its records are gone.
func TestR9OntoItsOwnMediumEmptied(t *testing.T) {
	m := recorded(t, plain(), true, row(small(), 1)...)
	p := player(t, m)
	must(t, m.Truncate(0), api.OK)
	again(t, m, p, m, 0, api.ErrMediumRange)
	as(t, m, laid(t, label(), false).Bytes())
	m = laid(t, label(), true)
	was := m.Bytes()
	p = player(t, m)
	must(t, m.Truncate(0), api.OK)
	again(t, m, p, m, 0, api.OK)
	as(t, m, was)
}

// R9: records of unlike shapes on one reel, which no recorder makes, are made again, too, each as its head says.
func TestR9RecordsOfUnlikeShapes(t *testing.T) {
	var records [][]byte
	c := chance(9)
	for i, s := range shapes() {
		records = append(records, coded(t, noisy(&c, s), by(i%3, api.Rung{i, 2 * i, 3 * i, 0})).Bytes)
	}
	m := laid(t, label(), true, records...)
	as(t, remade(t, m, player(t, m), len(records), api.OK), m.Bytes())
	p, e := session.Play(m, samples(small()))
	must(t, e, api.OK)
	as(t, remade(t, m, p, 0, api.ErrLimit), laid(t, label(), false, records[:2]...).Bytes())
}

// R9: what is laid down is what the frame is coded to, and not the record's bytes: of one whose payload nobody would have made, another one comes.
func TestR9EachFrameIsCodedAnew(t *testing.T) {
	s := api.Shape{Width: 2, Height: 2, Depth: 10}
	c := by(1, api.Rung{})
	f := flat(s, 512)
	// Raw, though coded it is shorter: 4, 2 and 2 samples of 512.
	payload := []byte{0, 0, 6, 0, 128, 32, 8, 2, 0, 0, 0, 4, 0, 128, 32, 0, 0, 0, 4, 0, 128, 32, 0}
	b, e := picture.Assemble(s, c, api.Rung{}, [][]byte{payload})
	must(t, e, api.OK)
	m := laid(t, label(), true, b)
	tells(t, m, api.Rung{}, f)
	anew := coded(t, f, c).Bytes
	if len(anew) >= len(b) {
		t.Fatal("the test is none:", len(anew), len(b))
	}
	as(t, remade(t, m, player(t, m), 1, api.OK), laid(t, label(), true, anew).Bytes())
}

// T10: what is coded anew is what comes back, by the record's own rung: nothing drifts, though each generation's frames are handed in again.
func TestT10NothingDrifts(t *testing.T) {
	c := by(1, api.Rung{7, 9, 11, 0})
	frames := row(small(), 2)
	m := recorded(t, c, true, frames...)
	whole := m.Bytes()
	for range 4 {
		p := player(t, m)
		var back []api.Frame
		for range 2 {
			f, _, e := p.Next()
			must(t, e, api.OK)
			back = append(back, f)
		}
		if slices.EqualFunc(frames, back, plane.Same) {
			t.Fatal("the test is none: nothing was lost")
		}
		m = recorded(t, c, true, back...)
		as(t, m, whole)
		tells(t, m, api.Rung{7, 9, 11, 0}, frames...)
	}
}
