package view_test

import (
	"bytes"
	"slices"
	"testing"

	"dailies/api"
	"dailies/crc"
	"dailies/picture"
	"dailies/plane"
	"dailies/view"
)

// subsets are all lists of numbers below n, rising.
func subsets(n int) [][]int {
	var list [][]int
	for bits := range 1 << n {
		var numbers []int
		for k := range n {
			if bits>>k&1 == 1 {
				numbers = append(numbers, k)
			}
		}
		list = append(list, numbers)
	}
	return list
}

// mark is how a slice stands whose record has these pieces spoilt.
func mark(h api.Head, k int, numbers []int) api.Mark {
	switch {
	case !slices.Contains(numbers, k):
		return api.Sound
	case len(numbers) <= h.Parity:
		return api.Mended
	}
	return api.Lost
}

// P13.3, T5: whichever payloads and parity rows are spoilt: as many as there are parity rows, fewer, more; rows alone; what is asked for comes back just where it must.
func TestP13_3WhicheverAreSpoilt(t *testing.T) {
	c := chance(133)
	for p := range 4 {
		s := api.Shape{Width: 40, Height: 20, Depth: 12}
		record, h, list := coded(t, way{mixed(s, &c), api.Config{SliceW: 16, SliceH: 16, Ladder: []api.Rung{{1, 0, 2}}, Parity: p}})
		n := samples(s, all(s))
		full, _, e := view.Whole(view.Of(record), n)
		if e != api.OK || h.Slices != 6 {
			t.Fatal(e, h)
		}
		for _, numbers := range subsets(6 + p) {
			b := spoilt(record, list, numbers...)
			x, _ := check(t, b, asking{what: whole, limit: n}, -1, 0)
			back := len(numbers) <= p || !slices.ContainsFunc(numbers, func(k int) bool { return k < 6 })
			if plane.Same(x.frame, full) != back {
				t.Fatal(p, numbers, x.report.Marks)
			}
			for k, m := range x.report.Marks {
				if m != mark(h, k, numbers) {
					t.Fatal(p, numbers, x.report.Marks)
				}
			}
			k := c.below(6)
			x, reads := check(t, b, asking{what: one, k: k, limit: n}, -1, 0)
			if !slices.Equal(x.report.Marks, []api.Mark{mark(h, k, numbers)}) {
				t.Fatal(p, k, numbers, x.report.Marks)
			}
			if more := slices.Contains(numbers, k) && p > 0; more != (len(reads) == 2+6+p) || !more && len(reads) != 3 {
				t.Fatal(p, k, numbers, reads)
			}
			check(t, b, asking{what: region, r: api.Rect{X: 14, Y: 2, W: 4, H: 16}, limit: n}, -1, 0)
		}
	}
}

// The greatest numbers: 16 rows, of one slice and of 200, all of which are spoilt.
func TestT5SixteenRows(t *testing.T) {
	for _, x := range []struct {
		s       api.Shape
		numbers []int
	}{
		{api.Shape{Width: 10, Height: 10, Depth: 10}, []int{0, 1, 2, 3, 4, 5, 6, 7, 8, 9, 10, 11, 12, 13, 14, 15}},
		{api.Shape{Width: 10, Height: 10, Depth: 10}, []int{0, 2, 3, 4, 5, 6, 7, 8, 9, 10, 11, 12, 13, 14, 15, 16}},
		{api.Shape{Width: 320, Height: 160, Depth: 10}, []int{0, 1, 2, 3, 20, 50, 77, 78, 79, 100, 111, 160, 180, 197, 198, 199}},
		{api.Shape{Width: 320, Height: 160, Depth: 10}, []int{7, 90, 199, 200, 201, 202, 203, 204, 205, 206, 207, 208, 209, 210, 211, 215}},
	} {
		record, h, list := coded(t, way{ramp(x.s), api.Config{SliceW: 16, SliceH: 16, Ladder: []api.Rung{{2, 2, 2}}, Parity: 16}})
		n := samples(x.s, all(x.s))
		full, _, _ := view.Whole(view.Of(record), n)
		for take := 14; take <= 16; take++ {
			got, _ := check(t, spoilt(record, list, x.numbers[:take]...), asking{what: whole, limit: n}, -1, 0)
			if !plane.Same(got.frame, full) || slices.Contains(got.report.Marks, api.Lost) {
				t.Fatal(h, take, got.report.Marks)
			}
		}
		more := append(slices.Clone(x.numbers), x.numbers[15]-1) // one more
		if slices.Contains(x.numbers, x.numbers[15]-1) {
			more[16] = h.Slices + 15
		}
		if slices.Contains(x.numbers, more[16]) {
			more[16] = 1
		}
		got, _ := check(t, spoilt(record, list, more...), asking{what: whole, limit: n}, -1, 0)
		for k, m := range got.report.Marks {
			if m != mark(h, k, more) {
				t.Fatal(h, more, k, m)
			}
		}
	}
}

// However a payload is spoilt: by one bit at any place, by all its bytes, by noughts.
func TestT5HoweverTheyAreSpoilt(t *testing.T) {
	c := chance(55)
	s := api.Shape{Width: 20, Height: 16, Depth: 10}
	record, h, list := coded(t, way{mixed(s, &c), api.Config{SliceW: 16, SliceH: 16, Ladder: []api.Rung{{}}, Parity: 1}})
	n := samples(s, all(s))
	full, _, _ := view.Whole(view.Of(record), n)
	front := 32 + picture.TableSize(h)
	for i := front; i < len(record); i++ {
		b := bytes.Clone(record)
		b[i] ^= 1 << c.below(8)
		f, r, e := view.Whole(view.Of(b), n)
		if !plane.Same(f, full) || e != api.OK {
			t.Fatal(i, e)
		}
		for k, m := range r.Marks {
			in := i >= list[k].At && i < list[k].At+list[k].Length
			if in != (m == api.Mended) || m == api.Lost {
				t.Fatal(i, r.Marks)
			}
		}
	}
	for _, v := range []byte{0, 1, 255} {
		for k := range list {
			b := bytes.Clone(record)
			for i := range list[k].Length {
				b[list[k].At+i] = v
			}
			f, _, e := view.Whole(view.Of(b), n)
			if !plane.Same(f, full) || e != api.OK {
				t.Fatal(v, k, e)
			}
		}
	}
}

// A payload that is not spoilt, and that Blocks does not take, is lost; parity is not asked for its sake. Spoilt, it is worked out, and lost.
func TestPayloadsThatAreNone(t *testing.T) {
	s := api.Shape{Width: 40, Height: 16, Depth: 10}
	c := api.Config{SliceW: 16, SliceH: 16, Ladder: []api.Rung{{}}, Parity: 2}
	good, _, list := coded(t, way{ramp(s), c})
	payloads := [][]byte{bytesOf(good, list[0]), []byte("none"), bytesOf(good, list[2])}
	record, h, list := assembled(t, s, c, payloads)
	n := samples(s, all(s))
	full, _, _ := view.Whole(view.Of(good), n)
	x, reads := check(t, record, asking{what: whole, limit: n}, -1, 0)
	if !slices.Equal(x.report.Marks, []api.Mark{api.Sound, api.Lost, api.Sound}) || len(reads) != 5 {
		t.Fatal(x.report, reads)
	}
	left, _ := plane.Cut(full, api.Rect{W: 16, H: 16})
	if got, _ := plane.Cut(x.frame, api.Rect{W: 16, H: 16}); !plane.Same(got, left) {
		t.Error("a slice beside it is another one")
	}
	middle, _ := plane.New(api.Shape{Width: 16, Height: 16, Depth: 10})
	if got, _ := plane.Cut(x.frame, api.Rect{X: 16, W: 16, H: 16}); !plane.Same(got, middle) {
		t.Error("a lost slice has samples")
	}
	x, reads = check(t, record, asking{what: one, k: 1, limit: n}, -1, 0)
	if !slices.Equal(x.report.Marks, []api.Mark{api.Lost}) || len(reads) != 3 {
		t.Fatal(x.report, reads)
	}
	// Beside a spoilt one it stays what it is, and is not worked out.
	x, _ = check(t, spoilt(record, list, 2), asking{what: whole, limit: n}, -1, 0)
	if !slices.Equal(x.report.Marks, []api.Mark{api.Sound, api.Lost, api.Mended}) {
		t.Fatal(x.report)
	}
	x, reads = check(t, spoilt(record, list, 1), asking{what: one, k: 1, limit: n}, -1, 0)
	if !slices.Equal(x.report.Marks, []api.Mark{api.Lost}) || len(reads) != 2+h.Slices+2 {
		t.Fatal(x.report, reads)
	}
	if want := h.Length + 4 + 2*512; x.report.Given != want {
		t.Error(x.report.Given, want)
	}
}

// retold is a record whose table says another sum of a piece: that piece is spoilt as it was written.
func retold(record []byte, h api.Head, number int) []byte {
	b := bytes.Clone(record)
	at := 32 + 8*number + 4
	if number >= h.Slices {
		at = 32 + 8*h.Slices + 4*(number-h.Slices)
	}
	b[at] ^= 0x40
	resum(b[32 : 32+picture.TableSize(h)])
	return b
}

// What parity works out is held against its sum: a sum that is another one loses its slice, though its bytes come back.
func TestWorkedOutIsHeldAgainstItsSum(t *testing.T) {
	record, h, list := shown(t)
	n := samples(h.Shape, all(h.Shape))
	b := retold(record, h, 4)
	x, reads := check(t, b, asking{what: one, k: 4, limit: n}, -1, 0)
	if !slices.Equal(x.report.Marks, []api.Mark{api.Lost}) || len(reads) != 12 {
		t.Fatal(x.report, reads)
	}
	if want := h.Length + list[4].Length + 2*(16*4*2+8*4*2); x.report.Given != want {
		t.Error(x.report.Given, want)
	}
	// It counts as spoilt: with it and one more there is just room for both, with a row's there is not.
	x, _ = check(t, spoilt(b, list, 0), asking{what: whole, limit: n}, -1, 0)
	if !slices.Equal(x.report.Marks, []api.Mark{1, 0, 0, 0, 2, 0, 0, 0}) {
		t.Error(x.report.Marks)
	}
	x, _ = check(t, spoilt(retold(b, h, 9), list, 0), asking{what: whole, limit: n}, -1, 0)
	if !slices.Equal(x.report.Marks, []api.Mark{2, 0, 0, 0, 2, 0, 0, 0}) {
		t.Error(x.report.Marks)
	}
}

// Parity rows that are none of these payloads, with sums that are theirs: what comes out is not what was there.
func TestRowsOfOtherPayloads(t *testing.T) {
	record, h, list := shown(t)
	n := samples(h.Shape, all(h.Shape))
	b := bytes.Clone(record)
	for i := 8; i < 10; i++ {
		b[list[i].At] ^= 9
		big.PutUint32(b[32+64+4*(i-8):], crc.Sum(bytesOf(b, list[i])))
	}
	resum(b[32 : 32+picture.TableSize(h)])
	x, _ := check(t, b, asking{what: whole, limit: n}, -1, 0)
	if slices.Max(x.report.Marks) != api.Sound {
		t.Fatal(x.report.Marks)
	}
	x, _ = check(t, spoilt(b, list, 2), asking{what: whole, limit: n}, -1, 0)
	if !slices.Equal(x.report.Marks, []api.Mark{0, 0, 2, 0, 0, 0, 0, 0}) {
		t.Fatal(x.report.Marks)
	}
}

// What has no bytes is not read: payloads of nothing among others, and nothing but such, whose parity rows have none either.
func TestPayloadsOfNothing(t *testing.T) {
	s := api.Shape{Width: 60, Height: 16, Depth: 12}
	n := samples(s, all(s))
	for p := range 3 {
		c := api.Config{SliceW: 16, SliceH: 16, Ladder: []api.Rung{{}}, Parity: p}
		good, _, list := coded(t, way{ramp(s), c})
		for _, empty := range subsets(4) {
			var payloads [][]byte
			for k := range 4 {
				payloads = append(payloads, bytesOf(good, list[k]))
				if slices.Contains(empty, k) {
					payloads[k] = nil
				}
			}
			record, h, entries := assembled(t, s, c, payloads)
			for _, numbers := range subsets(4 + p) {
				b := spoilt(record, entries, numbers...)
				x, reads := check(t, b, asking{what: whole, limit: n}, -1, 0)
				for i, span := range reads {
					if span.Length == 0 {
						t.Fatal(empty, numbers, i, reads)
					}
				}
				for k, m := range x.report.Marks {
					if slices.Contains(empty, k) && m != api.Lost {
						t.Fatal(empty, numbers, x.report.Marks)
					}
				}
				check(t, b, asking{what: one, k: len(numbers) % 4, limit: n}, -1, 0)
			}
			// A sum of nothing that is another one: spoilt, though there is nothing to read.
			for k := range 4 + p {
				check(t, retold(record, h, k), asking{what: whole, limit: n}, -1, 0)
				check(t, retold(record, h, k), asking{what: one, k: k % 4, limit: n}, -1, 0)
			}
		}
	}
}

func TestExampleOfTwoSlices(t *testing.T) {
	s := api.Shape{Width: 20, Height: 16, Depth: 10}
	record, h, list := coded(t, way{ramp(s), api.Config{SliceW: 16, SliceH: 16, Ladder: []api.Rung{{}}, Parity: 2}})
	n := samples(s, all(s))
	span := func(k int) api.Span { return api.Span{At: list[k].At, Length: list[k].Length} }
	front := []api.Span{{Length: 32}, {At: 32, Length: picture.TableSize(h)}, span(0)}
	every := append(slices.Clone(front), span(1), span(2), span(3))
	for _, x := range []struct {
		numbers []int
		reads   []api.Span
		mark    api.Mark
	}{
		{nil, front, api.Sound}, {[]int{1, 2, 3}, front, api.Sound}, {[]int{0}, every, api.Mended}, {[]int{0, 1}, every, api.Mended}, {[]int{0, 3}, every, api.Mended}, {[]int{0, 1, 2}, every, api.Lost}, {[]int{0, 1, 3}, every, api.Lost},
	} {
		src := tapOf(spoilt(record, list, x.numbers...))
		_, r, e := view.Slice(src, 0, n)
		if !slices.Equal(src.reads, x.reads) || !slices.Equal(r.Marks, []api.Mark{x.mark}) || !slices.Equal(r.Slices, []int{0}) || e != api.OK {
			t.Error(x.numbers, r, e, src.reads)
		}
	}
}
