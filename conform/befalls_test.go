package conform_test

import (
	"fmt"
	"slices"
	"testing"

	"dailies/api"
	"dailies/conform"
	"dailies/medium"
	"dailies/picture"
	"dailies/reel"
)

// receipt is where a record lies.
func receipt(t *testing.T, x store, name string, i int) api.Receipt {
	t.Helper()
	y, e := x.reels[name].Receipt(i)
	must(t, e, api.OK)
	return y
}

// spoil writes over a byte in the midst of a payload, or of a parity row behind the payloads.
func spoil(t *testing.T, x store, name string, i, k int) {
	t.Helper()
	y := receipt(t, x, name, i)
	b := x.media[name].Bytes()[y.At:][:y.Length]
	h, e := picture.Head(b)
	must(t, e, api.OK)
	list, e := picture.Table(h, b[32:])
	must(t, e, api.OK)
	at := list[k].At + list[k].Length/2
	must(t, x.media[name].Overwrite(y.At+at, []byte{b[at] ^ 85}), api.OK)
}

// K3: a record that is spoilt behind its head is copied as it is; nothing of it is mended.
func TestK3SpoiltRecordsAreCopied(t *testing.T) {
	l := listOf(cut("a", 100, 104), cut("b", 2, 5))
	for _, hurt := range []int{32, 40, 50, 80, 100, 200} {
		x := stock(t, small(), plain())
		whole := builds(t, l, x, api.Config{}, 0)
		for i := range 10 {
			must(t, x.media["a"].Overwrite(receipt(t, x, "a", i).At+hurt, []byte{1, 2, 3, 4, 5, 6, 7, 8, 9}), api.OK)
		}
		y := builds(t, l, x, api.Config{}, 0)
		if y.fault != api.OK || y.built != (api.Built{Frames: 7, Copied: 7}) || slices.Equal(y.bytes, whole.bytes) {
			t.Fatal(hurt, y.built, y.fault)
		}
		r := open(t, load(t, y.bytes))
		for i := range 4 {
			at, _ := r.Receipt(i)
			if !slices.Equal(y.bytes[at.At:][:at.Length], recordsOf(t, x, "a")[i]) {
				t.Fatal("not as it is:", i)
			}
		}
	}
}

// K3: a record whose head is none, or tells another length, is ErrReelRecord where it is copied, and view's error where it is mixed; each byte of a head.
func TestK3HeadsThatAreNone(t *testing.T) {
	for at := range 32 {
		x := stock(t, small(), plain())
		head := receipt(t, x, "a", 3).At
		b := x.media["a"].Bytes()[head+at]
		must(t, x.media["a"].Overwrite(head+at, []byte{b ^ 16}), api.OK)
		unbuilt(t, listOf(cut("b", 0, 2), cut("a", 101, 106)), x, plain(), api.MaxSamples, 1, api.ErrReelRecord, 4)
		unbuilt(t, listOf(cut("b", 0, 3), fade(3, "a", 102, 106)), x, plain(), api.MaxSamples, 1, api.ErrPictureHead, 1)
		unbuilt(t, listOf(cut("a", 101, 104), fade(2, "b", 0, 2)), x, plain(), api.MaxSamples, 1, api.ErrPictureHead, 2)
	}
}

// K3: records of any bytes, which no writer has taken: none, few, a head alone, a right record with a byte less and one more.
func TestK3RecordsThatAreNone(t *testing.T) {
	c := chance(35)
	right := coded(t, noisy(&c, small()), plain())
	for i, y := range []struct {
		bytes []byte
		mixed api.Errno
	}{
		{nil, api.ErrPictureHead},
		{[]byte("x"), api.ErrPictureHead},
		{right[:31], api.ErrPictureHead},
		{make([]byte, 500), api.ErrPictureHead},
		{right[:32], api.ErrPictureLength},
		{right[:len(right)-1], api.ErrPictureLength},
		{append(slices.Clone(right), 0), api.ErrPictureLength},
		{append(slices.Clone(right), right...), api.ErrPictureLength},
	} {
		m := linked(t, api.Label{Rate: api.Rate25}, right, y.bytes, right)
		x := storeOf(t, map[string]*medium.Medium{"x": m})
		if x.reels["x"].Count() != 3 {
			t.Fatal("the test is none:", i)
		}
		unbuilt(t, listOf(cut("x", 0, 1), cut("x", 0, 3)), x, plain(), api.MaxSamples, 1, api.ErrReelRecord, 2)
		unbuilt(t, listOf(cut("x", 0, 2), fade(1, "x", 0, 1)), x, plain(), api.MaxSamples, 1, y.mixed, 1)
		unbuilt(t, listOf(cut("x", 2, 3), fade(1, "x", 1, 2)), x, plain(), api.MaxSamples, 1, y.mixed, 0)
		if y := builds(t, listOf(cut("x", 0, 1), fade(1, "x", 2, 3)), x, plain(), api.MaxSamples); y.fault != api.OK {
			t.Fatal(y.fault)
		}
		kill(t, m)
		unbuilt(t, listOf(cut("x", 1, 2)), x, plain(), api.MaxSamples, 0, api.ErrMediumDead, 0)
	}
}

// K3: a record whose table is spoilt is told by view where it is mixed.
func TestK3TablesThatAreNone(t *testing.T) {
	x := stock(t, small(), plain())
	must(t, x.media["b"].Overwrite(receipt(t, x, "b", 2).At+33, []byte{9, 9}), api.OK)
	unbuilt(t, theCut(), x, plain(), api.MaxSamples, 1, api.ErrPictureTable, 3)
	unbuilt(t, listOf(cut("b", 0, 3), fade(1, "a", 100, 101)), x, plain(), api.MaxSamples, 1, api.ErrPictureTable, 2)
}

// K3: a slice that is mended does not count: what is mixed is as if nothing had happened.
func TestK3MendedSlicesAreMixed(t *testing.T) {
	x := stock(t, small(), by(2, api.Rung{2, 2, 2, 0}))
	l := listOf(cut("a", 100, 103), fade(3, "b", 0, 5))
	whole := builds(t, l, x, plain(), api.MaxSamples)
	for i := range 3 {
		spoil(t, x, "a", i, i)
		spoil(t, x, "a", i, 3+i%2)
		spoil(t, x, "b", i, (i+2)%4)
	}
	y := builds(t, l, x, plain(), api.MaxSamples)
	if y.fault != api.OK || y.built != (api.Built{Frames: 5, Copied: 2, Mixed: 3}) {
		t.Fatal(y.built, y.fault)
	}
	as(t, load(t, y.bytes), whole.bytes)
}

// K3: a slice that is lost, of either frame, of any slice, at each step of a fade; copied it does not matter.
func TestK3LostSlices(t *testing.T) {
	for parity := range 3 {
		for k := range 4 {
			for step := range 3 {
				for _, name := range []string{"a", "b"} {
					x := stock(t, small(), by(parity, api.Rung{}))
					record := map[string]int{"a": 2 + step, "b": 1 + step}[name]
					for i := range parity + 1 {
						spoil(t, x, name, record, (k+i)%4)
					}
					unbuilt(t, listOf(cut("c", 7, 9), cut("a", 102, 105), fade(3, "b", 1, 6)), x, plain(), api.MaxSamples, 2, api.ErrSessionDamage, 2+step)
					if y := builds(t, listOf(cut("a", 100, 110), cut("b", 0, 8)), x, plain(), api.MaxSamples); y.fault != api.OK {
						t.Fatal(y.fault)
					}
				}
			}
		}
	}
}

// K3: of a mixed step's errors the one that is named first: those of Frame, those of With, what is lost, the shapes, the coding.
func TestK3TheFirstErrorOfAMixedStep(t *testing.T) {
	c := chance(36)
	bare := by(0, api.Rung{})
	good, other := coded(t, noisy(&c, small()), bare), coded(t, noisy(&c, shapes()[1]), bare)
	hurt := func(record []byte, at int) []byte {
		b := slices.Clone(record)
		b[at] ^= 85
		return b
	}
	// The first payload ends behind its length, which the table tells first.
	inPayload := 32 + 36 + 3
	records := [][]byte{good, other, hurt(good, inPayload), hurt(other, inPayload), hurt(good, 33), hurt(good, 3)}
	kinds := []string{"good", "other", "lost", "lost other", "no table", "no head"}
	tight := bare
	tight.Cap = 33
	for i := range records {
		for j := range records {
			x := storeOf(t, map[string]*medium.Medium{
				"x": linked(t, api.Label{Rate: api.Rate25}, good, records[i]),
				"y": linked(t, api.Label{Rate: api.Rate25}, records[j], good),
			})
			l := listOf(cut("x", 0, 2), fade(1, "y", 0, 1))
			for _, config := range []api.Config{plain(), {}, tight} {
				want := map[bool]api.Errno{true: api.OK, false: api.ErrPictureConfig}[len(config.Ladder) > 0]
				if config.Cap > 0 {
					want = api.ErrCap
				}
				for _, rule := range []struct {
					holds bool
					fault api.Errno
				}{
					{i%2 != j%2, api.ErrConformShape},
					{i == 2 || i == 3 || j == 2 || j == 3, api.ErrSessionDamage},
					{j == 5, api.ErrPictureHead},
					{j == 4, api.ErrPictureTable},
					{i == 5, api.ErrPictureHead},
					{i == 4, api.ErrPictureTable},
				} {
					if rule.holds {
						want = rule.fault
					}
				}
				t.Run(fmt.Sprint(kinds[i], " with ", kinds[j], " ", want), func(t *testing.T) {
					y := builds(t, l, x, config, api.MaxSamples)
					must(t, y.fault, want)
				})
				// The limit is asked of each, behind its head, ahead of its table.
				y := builds(t, l, x, config, samples(small())-1)
				want = api.ErrLimit
				if i == 5 {
					want = api.ErrPictureHead
				}
				must(t, y.fault, want)
			}
		}
	}
}

// K3: what is laid down ahead of an error stays, and out's own error is told behind the step's.
func TestK3TheFirstErrorOfSteps(t *testing.T) {
	x := stock(t, small(), by(0, api.Rung{}))
	spoil(t, x, "b", 2, 0)
	must(t, x.media["c"].Overwrite(receipt(t, x, "c", 4).At, []byte("X")), api.OK)
	for n := 1; n <= 6; n++ {
		out := medium.New()
		must(t, out.Arm(n, 0), api.OK)
		built, err := conform.Build(theCut(), x.reels, plain(), api.MaxSamples, out)
		// The label, two copies and one mixture: the fifth would be the mixture that is none.
		switch {
		case n == 1:
			says(t, err, -1, api.ErrMediumDead)
		case n <= 3:
			says(t, err, 0, api.ErrMediumDead)
		case n == 4:
			says(t, err, 1, api.ErrMediumDead)
		default:
			says(t, err, 1, api.ErrSessionDamage)
		}
		if built != (api.Built{}) {
			t.Fatal(built)
		}
	}
}

// K3: a reel that was cut off since it was opened, at any place, each of them, all of them; what is told, and of which event, is what the first step tells that needs what is gone.
func TestK3ReelsThatWereCutOff(t *testing.T) {
	for _, name := range []string{"a", "b", "c"} {
		told := map[string]int{}
		for size := 0; ; size += 61 {
			x := stock(t, small(), plain())
			if size > x.media[name].Size() {
				break
			}
			must(t, x.media[name].Truncate(size), api.OK)
			y := builds(t, theCut(), x, plain(), api.MaxSamples)
			told[fmt.Sprint(y.event, " ", y.fault)]++
		}
		if len(told) < 2 {
			t.Fatal("the test is none:", told)
		}
	}
	// Just at the end of a record, and one byte ahead of it.
	for i := range 4 {
		x := stock(t, small(), plain())
		last := receipt(t, x, "a", 2+i)
		must(t, x.media["a"].Truncate(last.At+last.Length), api.OK)
		if i < 3 {
			unbuilt(t, theCut(), x, plain(), api.MaxSamples, []int{0, 1, 1}[i], api.ErrMediumRange, i+1)
		} else if y := builds(t, theCut(), x, plain(), api.MaxSamples); y.fault != api.OK {
			t.Fatal(y.fault)
		}
		must(t, x.media["a"].Truncate(last.At+last.Length-1), api.OK)
		unbuilt(t, theCut(), x, plain(), api.MaxSamples, []int{0, 0, 1, 1}[i], api.ErrMediumRange, i)
	}
}

// K3: media of reels that have died since they were opened, each of them, and of several that which is needed first; cut off and dead it is cut off.
func TestK3ReelsThatDied(t *testing.T) {
	x := stock(t, small(), plain())
	for _, y := range []struct {
		name           string
		event, records int
	}{{"c", 2, 5}, {"b", 1, 2}, {"a", 0, 0}} {
		kill(t, x.media[y.name])
		unbuilt(t, theCut(), x, plain(), api.MaxSamples, y.event, api.ErrMediumDead, y.records)
	}
	must(t, x.media["a"].Truncate(10), api.OK)
	unbuilt(t, theCut(), x, plain(), api.MaxSamples, 0, api.ErrMediumRange, 0)
	x = stock(t, small(), plain())
	must(t, x.media["b"].Truncate(10), api.OK)
	kill(t, x.media["b"])
	unbuilt(t, theCut(), x, plain(), api.MaxSamples, 1, api.ErrMediumRange, 2)
	// One that no event names may be dead, or gone.
	if y := builds(t, listOf(cut("a", 100, 103), fade(2, "c", 7, 10)), x, plain(), api.MaxSamples); y.fault != api.OK {
		t.Fatal(y.fault)
	}
}

// K3: a reel has the label and the records that it had when it was opened: what goes on behind that, and a label that was written over, do not matter.
func TestK3ReelsAsTheyWereOpened(t *testing.T) {
	x := stock(t, small(), plain())
	whole := builds(t, theCut(), x, plain(), api.MaxSamples)
	w, e := reel.Continue(x.media["b"])
	must(t, e, api.OK)
	_, e = w.Add(coded(t, flat(small(), 5), plain()))
	must(t, e, api.OK)
	must(t, x.media["c"].Overwrite(0, make([]byte, 20)), api.OK)
	must(t, x.media["a"].Overwrite(receipt(t, x, "a", 4).At-16, make([]byte, 16)), api.OK)
	y := builds(t, theCut(), x, plain(), api.MaxSamples)
	as(t, load(t, y.bytes), whole.bytes)
	unplanned(t, listOf(cut("b", 0, 9)), x.reels, 0, api.ErrConformRange)
}

// K3: out dies, in each of its Appends, of which any part stays: the label, each record, the end; what was laid down by then stays.
func TestK3DeathOfOut(t *testing.T) {
	x := stock(t, small(), plain())
	whole := builds(t, theCut(), x, plain(), api.MaxSamples)
	_, of := planned(theCut(), x.reels)
	r := open(t, load(t, whole.bytes))
	ends := []int{0, 22}
	for i := range r.Count() {
		at, _ := r.Receipt(i)
		ends = append(ends, at.At+at.Length)
	}
	ends = append(ends, len(whole.bytes))
	of = append(append([]int{-1}, of...), -1)
	for n := 1; n < len(ends); n++ {
		size := ends[n] - ends[n-1]
		for _, keep := range []int{0, 1, 15, 16, 17, size / 2, size - 1, size, size + 1} {
			out := medium.New()
			must(t, out.Arm(n, keep), api.OK)
			unchanged := watch(t, theCut(), x)
			built, err := conform.Build(theCut(), x.reels, plain(), api.MaxSamples, out)
			says(t, err, of[n-1], api.ErrMediumDead)
			if built != (api.Built{}) {
				t.Fatal(built)
			}
			as(t, out, whole.bytes[:ends[n-1]+min(keep, size)])
			unchanged()
		}
	}
	// One that would die later than all of it does not.
	out := medium.New()
	must(t, out.Arm(len(ends), 0), api.OK)
	built, err := conform.Build(theCut(), x.reels, plain(), api.MaxSamples, out)
	says(t, err, 0, api.OK)
	if built != whole.built || out.Dead() {
		t.Fatal(built)
	}
	as(t, out, whole.bytes)
}

// K3: a Finish that fails is told of no event, also of a reel without a record; all records stay, and the reel may be gone on with.
func TestK3FinishThatFails(t *testing.T) {
	x := stock(t, small(), plain())
	for _, l := range []api.CutList{theCut(), listOf(), listOf(cut("a", 100, 101))} {
		whole := builds(t, l, x, plain(), api.MaxSamples)
		n := whole.built.Frames
		for _, keep := range []int{0, 1, 12, 23 + 4*n} {
			out := medium.New()
			must(t, out.Arm(n+2, keep), api.OK)
			built, err := conform.Build(l, x.reels, plain(), api.MaxSamples, out)
			says(t, err, -1, api.ErrMediumDead)
			if built != (api.Built{}) {
				t.Fatal(built)
			}
			out.Revive()
			if r := open(t, out); r.Count() != n || r.Finished() {
				t.Fatal(r.Count())
			}
			w, e := reel.Continue(out)
			must(t, e, api.OK)
			_, e = w.Finish()
			must(t, e, api.OK)
			as(t, out, whole.bytes)
		}
	}
}

// K3, P20.4: lists, damage, cuts and deaths by chance: what is answered, and of which event, and what lies on out, is what the words say; nothing else has changed.
func TestK3WhateverBefalls(t *testing.T) {
	c := chance(37)
	names := []string{"a", "b", "c"}
	first := stockBy(t, small(), map[string]api.Config{"a": by(0, api.Rung{}), "b": by(1, api.Rung{1, 2, 3, 0}), "c": by(2, api.Rung{})})
	told := map[api.Errno]int{}
	for range 700 {
		media := map[string]*medium.Medium{}
		for _, name := range names {
			media[name] = load(t, first.media[name].Bytes())
		}
		x := storeOf(t, media)
		for range c.below(6) {
			m := media[names[c.below(3)]]
			switch c.below(9) {
			case 0:
				must(t, m.Truncate(m.Size()/2+c.below(m.Size()/2+1)), api.OK)
			case 1:
				if c.below(4) == 0 && !m.Dead() {
					kill(t, m)
				}
			default:
				b := make([]byte, 1+c.below(5))
				for i := range b {
					b[i] = byte(c.below(256))
				}
				must(t, m.Overwrite(c.below(m.Size()-len(b)), b), api.OK)
			}
		}
		config := by(c.below(2), api.Rung{}, api.Rung{9, 9, 9, 0})
		if c.below(4) == 0 {
			config.Cap = 200 + c.below(800)
		}
		l := someList(&c, x.reels, names, 7)
		told[builds(t, l, x, config, api.MaxSamples-c.below(20)/19*api.MaxSamples).fault]++
	}
	for _, e := range []api.Errno{api.OK, api.ErrSessionDamage, api.ErrMediumRange, api.ErrMediumDead, api.ErrReelRecord, api.ErrCap, api.ErrLimit, api.ErrConformRange} {
		if told[e] < 3 {
			t.Error("too few:", e, told)
		}
	}
}
