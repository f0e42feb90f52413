package pixel_test

import (
	"bytes"
	"slices"
	"sync"
	"testing"

	"dailies/api"
)

// roomy is the same frame, with spare room behind its planes and behind their list, which is written full.
func roomy(f api.Frame) api.Frame {
	list := make([][]uint16, 0, len(f.Planes)+2)
	for _, samples := range f.Planes {
		list = append(list, append(slices.Clone(samples), 65535, 65535, 65535)[:len(samples)])
	}
	list = append(list, []uint16{9}, []uint16{9})
	return api.Frame{Shape: f.Shape, Planes: list[:len(f.Planes)]}
}

// deep is a frame with all that stands behind its lists.
func deep(f api.Frame) api.Frame {
	g := api.Frame{Shape: f.Shape}
	for _, samples := range f.Planes[:cap(f.Planes)] {
		g.Planes = append(g.Planes, slices.Clone(samples[:cap(samples)]))
	}
	return g
}

// spareBytes are the same, with room behind them that is written full.
func spareBytes(b []byte) []byte {
	return append(bytes.Clone(b), 255, 255, 255, 255)[:len(b)]
}

// some are a few of its shapes.
func (k kind) some() []api.Shape {
	return append(k.shapes(7, 3), append(k.shapes(48, 1), k.shapes(49, 2)...)...)
}

func TestP3NothingHandedInIsWrittenInto(t *testing.T) {
	c := chance(31)
	for _, k := range kinds() {
		for _, s := range k.some() {
			f := roomy(c.frame(s))
			was := deep(f)
			b := spareBytes(k.packed(t, f))
			text := bytes.Clone(b[:cap(b)])
			k.reads(t, b, api.Frame{Shape: s, Planes: f.Planes})
			k.refuses(t, s, b[1:], api.ErrPixelLength)
			k.refuses(t, s, b[:len(b)-1], api.ErrPixelLength)
			if !same(deep(f), was) || !bytes.Equal(b[:cap(b)], text) {
				t.Fatal(k.name, s, "what was handed in is other than it was")
			}
			b[len(b)-1] |= 0x80
			text[len(b)-1] |= 0x80
			k.refuses(t, s, b, api.ErrPixelSample)
			if !bytes.Equal(b[:cap(b)], text) {
				t.Fatal(k.name, s, "bytes that were refused are other than they were")
			}
		}
	}
}

// Each list of the answers is written over, its spare room too: nothing else may change by that.
func TestP3AnswersShareNoMemory(t *testing.T) {
	c := chance(32)
	for _, k := range kinds() {
		for _, s := range k.some() {
			want := c.frame(s)
			f := roomy(want)
			was := deep(f)
			one, two := k.packed(t, f), k.packed(t, f)
			text := bytes.Clone(two)
			in := bytes.Clone(text)
			g, _ := k.unpack(s, in)
			h, _ := k.unpack(s, in)
			clear(one[:cap(one)])
			for p := range g.Planes {
				before := copied(g)
				room := g.Planes[p][:cap(g.Planes[p])]
				for i := range room {
					room[i] ^= 65535
				}
				before.Planes[p] = slices.Clone(g.Planes[p])
				if !same(g, before) {
					t.Fatal(k.name, s, "planes of one frame share memory")
				}
			}
			clear(g.Planes[:cap(g.Planes)])
			if !bytes.Equal(two, text) || !bytes.Equal(in, text) || !same(h, want) || !same(deep(f), was) {
				t.Fatal(k.name, s, "an answer shares memory")
			}
			clear(in)
			for _, samples := range f.Planes {
				clear(samples)
			}
			if !bytes.Equal(two, text) || !same(h, want) {
				t.Fatal(k.name, s, "what was handed in is kept")
			}
		}
	}
}

func TestP4CallsBesideOneAnother(t *testing.T) {
	c := chance(33)
	for _, k := range kinds() {
		f := c.frame(k.shapes(97, 5)[0])
		b := k.packed(t, f)
		var all sync.WaitGroup
		for range 8 {
			all.Go(func() {
				for range 20 {
					if again, e := k.pack(f); e != api.OK || !bytes.Equal(again, b) {
						t.Error(k.name, "other bytes", e)
					}
					if g, e := k.unpack(f.Shape, b); e != api.OK || !same(f, g) {
						t.Error(k.name, "another frame", e)
					}
				}
			})
		}
		all.Wait()
	}
}
