package reel_test

import (
	"slices"
	"testing"

	"dailies/api"
	"dailies/picture"
	"dailies/plane"
	"dailies/reel"
	"dailies/view"
)

// pictured is a frame as chance has it, and its record.
func pictured(t *testing.T, c *chance, s api.Shape, parity int) (api.Frame, string) {
	t.Helper()
	f, e := plane.New(s)
	must(t, e, api.OK)
	for _, p := range f.Planes {
		for i := range p {
			p[i] = uint16(c.below(1 << s.Depth))
		}
	}
	x, e := picture.Encode(f, api.Config{SliceW: 16, SliceH: 16, Ladder: []api.Rung{{}}, Parity: parity})
	must(t, e, api.OK)
	return f, string(x.Bytes)
}

// shown are frames on a finished reel.
func shown(t *testing.T, parity int) ([]api.Frame, said) {
	t.Helper()
	c := chance(16)
	s := said{label: api.Label{Title: "seen", Rate: 2}, finished: true}
	var frames []api.Frame
	for i := range 3 {
		f, text := pictured(t, &c, api.Shape{Width: 48 - i, Height: 40, Depth: 10 + i%2*2, Alpha: i == 1}, parity)
		frames = append(frames, f)
		s.texts = append(s.texts, text)
	}
	return frames, s
}

// spans are where head, table and these payloads of a record lie on the medium.
func spans(t *testing.T, x api.Receipt, text string, slices ...int) []api.Span {
	t.Helper()
	h, e := picture.Head([]byte(text))
	must(t, e, api.OK)
	list, e := picture.Table(h, []byte(text[32:]))
	must(t, e, api.OK)
	out := []api.Span{{At: x.At, Length: 32}, {At: x.At + 32, Length: picture.TableSize(h)}}
	for _, k := range slices {
		out = append(out, api.Span{At: x.At + list[k].At, Length: list[k].Length})
	}
	return out
}

// T7: of a record on a reel just its head, its table and the payloads that are asked for are read.
func TestT7ReadInPart(t *testing.T) {
	for _, parity := range []int{0, 2} {
		frames, s := shown(t, parity)
		m := load(t, s.bytes())
		r, e := reel.Open(m)
		must(t, e, api.OK)
		for i, x := range s.receipts() {
			src, e := r.Record(i)
			must(t, e, api.OK)
			for k := range 9 {
				m.Forget()
				_, report, e := view.Slice(src, k, api.MaxSamples)
				if e != api.OK || !slices.Equal(report.Marks, []api.Mark{api.Sound}) {
					t.Fatal(i, k, e, report)
				}
				if l := m.Log(); !slices.Equal(l, spans(t, x, s.texts[i], k)) {
					t.Fatal(i, k, l)
				}
			}
			m.Forget()
			part := api.Rect{X: 14, Y: 15, W: 4, H: 1}
			f, _, e := view.Region(src, part, api.MaxSamples)
			must(t, e, api.OK)
			if l := m.Log(); !slices.Equal(l, spans(t, x, s.texts[i], 0, 1)) {
				t.Fatal(i, l)
			}
			want, e := plane.Cut(frames[i], part)
			must(t, e, api.OK)
			if !alike(f, want) {
				t.Fatal(i, "the region is another one")
			}
			m.Forget()
			h, e := view.Head(src)
			if e != api.OK || h.Length != x.Length || !slices.Equal(m.Log(), []api.Span{{At: x.At, Length: 32}}) {
				t.Fatal(i, h, e, m.Log())
			}
		}
	}
}

// alike tells whether two frames have the same samples.
func alike(a, b api.Frame) bool {
	return a.Shape == b.Shape && slices.EqualFunc(a.Planes, b.Planes, func(p, q []uint16) bool { return slices.Equal(p, q) })
}

// T8: a reel of frames, cut off, has the frames that lie whole ahead of the cut, each as it was.
func TestT8FramesAheadOfACut(t *testing.T) {
	frames, s := shown(t, 1)
	text := s.bytes()
	for cut := len(saidLabel(s.label)); cut <= len(text); cut += 97 {
		r, e := reel.Open(load(t, text[:cut]))
		must(t, e, api.OK)
		if r.Count() != whole(s, cut) {
			t.Fatal(cut, r.Count())
		}
		for x, src := range r.All() {
			f, _, e := view.Whole(src, api.MaxSamples)
			if e != api.OK || !alike(f, frames[x.Number]) {
				t.Fatal(cut, x, e)
			}
		}
	}
}

// T9: what is written over a payload frees that slice, over a head or a table that record; all other frames are as they were.
func TestT9TheConeOfAFrame(t *testing.T) {
	frames, s := shown(t, 0)
	for i, x := range s.receipts() {
		parts := spans(t, x, s.texts[i], 0, 1, 2, 3, 4, 5, 6, 7, 8)
		for n, part := range parts {
			m := load(t, s.bytes())
			b, _ := m.Read(part.At+part.Length/2, 1)
			must(t, m.Overwrite(part.At+part.Length/2, []byte{b[0] ^ 85}), api.OK)
			r, e := reel.Open(m)
			must(t, e, api.OK)
			for y, src := range r.All() {
				f, report, e := view.Whole(src, api.MaxSamples)
				switch {
				case y.Number != i:
					if e != api.OK || !alike(f, frames[y.Number]) {
						t.Fatal(i, n, y, e)
					}
				case n == 0:
					must(t, e, api.ErrPictureHead)
				case n == 1:
					must(t, e, api.ErrPictureTable)
				default:
					want := make([]api.Mark, 9)
					want[n-2] = api.Lost
					if e != api.OK || !slices.Equal(report.Marks, want) {
						t.Fatal(i, n, e, report.Marks)
					}
				}
			}
			if r.Count() != 3 || !r.Finished() {
				t.Fatal(r.Count())
			}
		}
	}
}
