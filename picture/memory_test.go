package picture_test

import (
	"bytes"
	"reflect"
	"slices"
	"sync"
	"testing"

	"dailies/api"
	"dailies/picture"
)

// spare has the same items, with room behind them that is written full.
func spare[T any](items []T, mark T) []T {
	return append(slices.Clone(items), slices.Repeat([]T{mark}, 5)...)[:len(items)]
}

// all is a list with what stands behind it.
func all[T any](items []T) []T { return items[:cap(items)] }

// given is what is handed in: each list has spare room, and so have the lists in them.
type given struct {
	frame    api.Frame
	config   api.Config
	payloads [][]byte
	record   []byte
}

func handed(t *testing.T) given {
	t.Helper()
	c := chance(31)
	f := mixed(api.Shape{Width: 40, Height: 18, Depth: 10}, &c)
	k := api.Config{SliceW: 16, SliceH: 16, Ladder: []api.Rung{{1, 2, 3}, {9, 9, 9}}, Parity: 2}
	var planes [][]uint16
	for _, samples := range f.Planes {
		planes = append(planes, spare(samples, 65535))
	}
	var payloads [][]byte
	for _, payload := range payloadsOf(t, f, k, k.Ladder[0]) {
		payloads = append(payloads, spare(payload, 77))
	}
	record := recordOf(t, f.Shape, k, k.Ladder[0], payloads)
	f.Planes, k.Ladder = spare(planes, []uint16{65535}), spare(k.Ladder, api.Rung{64, -1, 64, 64})
	return given{f, k, spare(payloads, []byte{78}), spare(record, 79)}
}

// deep is a copy of all that is handed in, what stands behind lists too.
func (g given) deep() given {
	var out given
	out.frame.Shape, out.config = g.frame.Shape, g.config
	for _, samples := range all(g.frame.Planes) {
		out.frame.Planes = append(out.frame.Planes, slices.Clone(all(samples)))
	}
	for _, payload := range all(g.payloads) {
		out.payloads = append(out.payloads, slices.Clone(all(payload)))
	}
	out.config.Ladder = slices.Clone(all(g.config.Ladder))
	out.record = bytes.Clone(all(g.record))
	return out
}

// scribble writes over all that is handed in.
func (g given) scribble() {
	for _, samples := range all(g.frame.Planes) {
		flip(all(samples))
	}
	for _, payload := range all(g.payloads) {
		flip(all(payload))
	}
	clear(all(g.frame.Planes))
	clear(all(g.payloads))
	clear(all(g.config.Ladder))
	flip(all(g.record))
}

func flip[T byte | uint16](items []T) {
	for i := range items {
		items[i] = ^items[i]
	}
}

// answers are all that the calls tell of what is handed in.
type answers struct {
	lists   [][]byte
	entries []api.Entry
	blocks  []api.Block
	pinned  api.Config
}

func ask(t *testing.T, g given) answers {
	var out answers
	sound := func(e api.Errno) {
		if e != api.OK { // no Fatal: goroutines ask, too
			t.Error(e)
		}
	}
	b, e := picture.Payload(g.frame, g.config, g.config.Ladder[0], 2)
	sound(e)
	out.lists = append(out.lists, b)
	b, e = picture.Assemble(g.frame.Shape, g.config, g.config.Ladder[0], g.payloads)
	sound(e)
	out.lists = append(out.lists, b)
	x, e := picture.At(g.frame, g.config, 1)
	sound(e)
	out.lists = append(out.lists, x.Bytes)
	x, e = picture.Encode(g.frame, g.config)
	sound(e)
	out.lists = append(out.lists, x.Bytes)
	h, e := picture.Head(g.record)
	sound(e)
	out.entries, e = picture.Table(h, g.record[32:])
	sound(e)
	last := h.Slices - 1
	out.blocks, e = picture.Blocks(h, last, g.payloads[last])
	sound(e)
	out.pinned = picture.Pinned(h)
	sound(picture.Valid(g.config, g.frame.Shape))
	_, e = picture.Bound(g.frame.Shape, g.config)
	sound(e)
	return out
}

// refused are calls that answer errors.
func refused(t *testing.T, g given) {
	t.Helper()
	h, _ := picture.Head(g.record)
	_, e := picture.Payload(g.frame, g.config, api.Rung{64}, 0)
	_, f := picture.Payload(g.frame, g.config, api.Rung{}, 6)
	_, i := picture.Assemble(g.frame.Shape, g.config, api.Rung{}, g.payloads[1:])
	_, k := picture.At(g.frame, g.config, 2)
	c := g.config
	c.Cap = 1
	_, l := picture.Encode(g.frame, c)
	_, m := picture.Head(g.record[:31])
	_, n := picture.Table(h, g.record[32:50])
	_, o := picture.Blocks(h, 1, g.payloads[1][:9])
	if want := []api.Errno{api.ErrPictureConfig, api.ErrTileSlice, api.ErrArg, api.ErrArg, api.ErrCap, api.ErrPictureHead, api.ErrPictureTable, api.ErrPictureLength}; !slices.Equal(want, []api.Errno{e, f, i, k, l, m, n, o}) {
		t.Fatal(e, f, i, k, l, m, n, o)
	}
}

func (a answers) copied() answers {
	out := answers{entries: slices.Clone(a.entries), pinned: a.pinned}
	for _, b := range a.lists {
		out.lists = append(out.lists, bytes.Clone(b))
	}
	for _, b := range a.blocks {
		b.Samples = slices.Clone(b.Samples)
		out.blocks = append(out.blocks, b)
	}
	out.pinned.Ladder = slices.Clone(a.pinned.Ladder)
	return out
}

// scribble writes over all that was answered, and over its spare room.
func (a answers) scribble() {
	for _, b := range a.lists {
		flip(all(b))
	}
	for _, b := range a.blocks {
		flip(all(b.Samples))
	}
	clear(all(a.entries))
	clear(all(a.blocks))
	clear(all(a.pinned.Ladder))
}

func TestP3NothingHandedInIsWrittenInto(t *testing.T) {
	g := handed(t)
	was := g.deep()
	ask(t, g)
	refused(t, g)
	if !reflect.DeepEqual(g.deep(), was) {
		t.Fatal("what was handed in is other than it was")
	}
}

func TestP3AnswersShareNoMemory(t *testing.T) {
	g := handed(t)
	was := g.deep()
	one, two := ask(t, g), ask(t, g)
	want := two.copied()
	one.scribble()
	if !reflect.DeepEqual(g.deep(), was) {
		t.Fatal("an answer shares memory with what was handed in")
	}
	if !reflect.DeepEqual(two, want) {
		t.Fatal("an answer shares memory with another one")
	}
	if three := ask(t, g); !reflect.DeepEqual(three, want) {
		t.Fatal("another answer")
	}
	g.scribble()
	if !reflect.DeepEqual(two, want) {
		t.Fatal("what was handed in is kept")
	}
}

// The blocks of one answer share no memory, nor does what is appended to one reach the next.
func TestP3BlocksShareNoMemory(t *testing.T) {
	g := handed(t)
	blocks := ask(t, g).blocks
	for p := range blocks {
		before := make([][]uint16, len(blocks))
		for q, b := range blocks {
			before[q] = slices.Clone(b.Samples)
		}
		flip(all(blocks[p].Samples))
		_ = append(blocks[p].Samples, 1, 2, 3)
		for q, b := range blocks {
			if q != p && !slices.Equal(b.Samples, before[q]) {
				t.Fatal("the blocks", p, "and", q, "share memory")
			}
		}
	}
}

// One list at many places, and spare room that would be wrong, are as good as others.
func TestP3OneListAtManyPlaces(t *testing.T) {
	s := api.Shape{Width: 16, Height: 16, Depth: 10, Alpha: true}
	samples := ramp(s).Planes[0]
	half := samples[:128]
	f := api.Frame{Shape: s, Planes: [][]uint16{samples, half, half, samples}}
	g := api.Frame{Shape: s, Planes: [][]uint16{slices.Clone(samples), slices.Clone(half), slices.Clone(half), slices.Clone(samples)}}
	if !bytes.Equal(at(t, f, plain, 0).Bytes, at(t, g, plain, 0).Bytes) {
		t.Error("frames that are the same are coded otherwise")
	}
	b := []byte{1, 2, 3, 4, 5}
	c := with(plain, func(c *api.Config) { c.Parity = 3 })
	line := api.Shape{Width: 48, Height: 16, Depth: 10}
	got, e := picture.Assemble(line, c, api.Rung{}, [][]byte{b, b[:2], b[1:]})
	if want := recordOf(t, line, c, api.Rung{}, [][]byte{{1, 2, 3, 4, 5}, {1, 2}, {2, 3, 4, 5}}); !bytes.Equal(got, want) || e != api.OK {
		t.Error(e)
	}
}

func TestP4CallsBesideOneAnother(t *testing.T) {
	g := handed(t)
	want := ask(t, g)
	var hands sync.WaitGroup
	for range 8 {
		hands.Go(func() {
			for range 10 {
				if !reflect.DeepEqual(ask(t, g), want) {
					t.Error("another answer")
				}
			}
		})
	}
	hands.Wait()
}
