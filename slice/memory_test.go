package slice_test

import (
	"bytes"
	"slices"
	"sync"
	"testing"

	"dailies/api"
	"dailies/slice"
)

// spare has the same items, with room behind them that is written full.
func spare[T byte | uint16](items []T) []T {
	return append(slices.Clone(items), 77, 78, 79, 80, 81, 82)[:len(items)]
}

// scribble writes over a list and over its spare room.
func scribble[T byte | uint16](items []T) {
	items = items[:cap(items)]
	for i := range items {
		items[i] = ^items[i]
	}
}

// told are two blocks of the same size: one that is coded, and one that is told raw.
func told(t *testing.T) []api.Block {
	t.Helper()
	c := chance(3)
	flat, wild := blockOf(6, many(24, 300)...), blockOf(6, many(24, 0)...)
	for i := range wild.Samples {
		wild.Samples[i] = uint16(c.below(1024))
	}
	if encoded(t, flat, 10, 2)[0] != 1 || encoded(t, wild, 10, 2)[0] != 0 {
		t.Fatal("not one of each")
	}
	return []api.Block{flat, wild}
}

func TestP3NothingHandedInIsWrittenInto(t *testing.T) {
	for _, b := range told(t) {
		b.Samples = spare(b.Samples)
		was := slices.Clone(b.Samples[:cap(b.Samples)])
		s := spare(encoded(t, b, 10, 2))
		text := slices.Clone(s[:cap(s)])
		settled(t, b, 10, 2)
		slice.Encode(b, 12, 0)
		slice.Settle(b, 12, 63)
		refusesBlock(t, b, 10, 64, api.ErrModelTolerance)
		refusesBlock(t, api.Block{W: 5, H: 5, Samples: b.Samples}, 10, 0, api.ErrSliceBlock)
		reads(t, s, 10, 2, settled(t, b, 10, 2))
		refuses(t, s[:len(s)-1], 6, 4, 10, 2, api.ErrSliceForm)
		refuses(t, append(bytes.Clone(s), 0), 6, 4, 10, 2, api.ErrSliceLong)
		if !slices.Equal(b.Samples[:cap(b.Samples)], was) || !bytes.Equal(s[:cap(s)], text) {
			t.Fatal("what was handed in is other than it was")
		}
	}
}

func TestP3NothingIsSharedOrKept(t *testing.T) {
	for _, b := range told(t) {
		in := api.Block{W: b.W, H: b.H, Samples: spare(b.Samples)}
		s, came := encoded(t, b, 10, 2), settled(t, b, 10, 2)
		one, two := encoded(t, in, 10, 2), encoded(t, in, 10, 2)
		three, four := settled(t, in, 10, 2), settled(t, in, 10, 2)
		text := spare(s)
		five, e := slice.Decode(text, b.W, b.H, 10, 2)
		six, f := slice.Decode(text, b.W, b.H, 10, 2)
		if e != api.OK || f != api.OK {
			t.Fatal(e, f)
		}
		scribble(one)
		scribble(three.Samples)
		scribble(five.Samples)
		if !slices.Equal(in.Samples, b.Samples) || !bytes.Equal(text, s) {
			t.Fatal("an answer shares memory with what was handed in")
		}
		scribble(in.Samples)
		scribble(text)
		if !bytes.Equal(two, s) || !sameBlock(four, came) || !sameBlock(six, came) {
			t.Fatal("an answer shares memory with another one, or with what was handed in")
		}
	}
}

func TestP4CallsBesideOneAnother(t *testing.T) {
	var all sync.WaitGroup
	for _, b := range told(t) {
		for d := range 4 {
			s, came := encoded(t, b, 10, d), settled(t, b, 10, d)
			for range 4 {
				all.Go(func() {
					for range 30 {
						again, e := slice.Encode(b, 10, d)
						back, f := slice.Settle(b, 10, d)
						read, g := slice.Decode(s, b.W, b.H, 10, d)
						_, h := slice.Decode(s[:1], b.W, b.H, 10, d)
						if e != api.OK || f != api.OK || g != api.OK || h != api.ErrSliceForm {
							t.Error(e, f, g, h)
						}
						if !bytes.Equal(again, s) || !sameBlock(back, came) || !sameBlock(read, came) {
							t.Error("another answer")
						}
					}
				})
			}
		}
	}
	all.Wait()
}
