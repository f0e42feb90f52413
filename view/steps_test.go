package view_test

import (
	"bytes"
	"math"
	"slices"
	"testing"

	"dailies/api"
	"dailies/picture"
	"dailies/view"
)

// shown is the record that most tests of the steps look at: 51 by 20, so that the last column is odd, in 8 slices, with two parity rows.
func shown(t *testing.T) ([]byte, api.Head, []api.Entry) {
	t.Helper()
	c := chance(5)
	s := api.Shape{Width: 51, Height: 20, Depth: 10, Alpha: true}
	return coded(t, way{mixed(s, &c), api.Config{SliceW: 16, SliceH: 16, Ladder: []api.Rung{{1, 2, 2, 3}}, Parity: 2}})
}

// limits, slicesOf and rectsOf are arguments that may be for a head, and such that may not.
func limits(h api.Head) []int {
	n := samples(h.Shape, all(h.Shape))
	return append(odd(), 0, 1, n-1, n, n+1, 4194303, 4194304, 4194305)
}

func slicesOf(h api.Head) []int {
	return append(odd(), 0, 1, h.Slices-1, h.Slices, h.Slices+1)
}

func rectsOf(h api.Head) []api.Rect {
	w, y := h.Shape.Width, h.Shape.Height
	list := []api.Rect{
		{}, {W: 2}, {H: 2}, {X: 0, Y: 0, W: 2, H: 1}, {X: 1, Y: 0, W: 2, H: 2}, {X: 0, Y: 0, W: 1, H: 1}, {X: 2, Y: 3, W: 3, H: 2}, {X: 2, Y: 3, W: 4, H: 2},
		{X: 0, Y: 0, W: w, H: y}, {X: 0, Y: 0, W: w + 1, H: y}, {X: 0, Y: 0, W: w, H: y + 1}, {X: 2, Y: 0, W: w - 2, H: y}, {X: 2, Y: 0, W: w - 1, H: y}, {X: 1, Y: 0, W: w - 1, H: y},
		{X: 0, Y: 1, W: w, H: y - 1}, {X: 0, Y: 1, W: w, H: y}, {X: 0, Y: y, W: 2, H: 1}, {X: (w + 1) / 2 * 2, Y: 0, W: 2, H: 1}, {X: (w - 1) / 2 * 2, Y: y - 1, W: 2, H: 1}, {X: (w - 1) / 2 * 2, Y: y - 1, W: 1, H: 1},
		{X: 0, Y: 0, W: w - 1, H: 1}, {X: 0, Y: 0, W: w - 2, H: 1}, {X: -2, Y: 0, W: 4, H: 1}, {X: 0, Y: -1, W: 4, H: 2},
	}
	for _, n := range odd() {
		list = append(list, api.Rect{X: n, W: 2, H: 2}, api.Rect{Y: n, W: 2, H: 2}, api.Rect{W: n, H: 2}, api.Rect{W: 2, H: n}, api.Rect{X: 2, Y: 1, W: n, H: n}, api.Rect{X: n, Y: n, W: 2, H: 2}, api.Rect{X: n, Y: 0, W: n, H: 1}, api.Rect{X: 0, Y: n, W: 2, H: n})
	}
	return list
}

func allAskings(h api.Head, limits []int) []asking {
	var list []asking
	for _, limit := range limits {
		list = append(list, asking{what: whole, limit: limit})
		for _, k := range slicesOf(h) {
			list = append(list, asking{what: one, k: k, limit: limit})
		}
		for _, r := range rectsOf(h) {
			list = append(list, asking{what: region, r: r, limit: limit})
		}
	}
	return list
}

// sources are a record, and what is wrong with it in some way.
func sources(record []byte, h api.Head) map[string][]byte {
	table := bytes.Clone(record)
	table[40] ^= 1
	head := bytes.Clone(record)
	head[5] ^= 1
	both := append(bytes.Clone(table), 0)
	payload := bytes.Clone(record)
	payload[32+picture.TableSize(h)+5] ^= 1
	return map[string][]byte{
		"nothing": nil, "a byte": record[:1], "31 bytes": record[:31], "a head": record[:32], "33 bytes": record[:33],
		"no payload": record[:32+picture.TableSize(h)], "one less": record[:len(record)-1], "all": record, "one more": append(bytes.Clone(record), 0),
		"no head": head, "no head, short": head[:31], "no head, long": append(bytes.Clone(head), 1, 2),
		"no table": table, "no table, long": both, "no table, short": table[:len(table)-1],
		"a payload": payload, "other bytes": bytes.Repeat([]byte("DLY1"), 100),
	}
}

// P2: whatever is wrong, together or alone, the answer is what the steps name first, and no more is read than up to there.
func TestStepsInTheirOrder(t *testing.T) {
	record, h, _ := shown(t)
	told := map[api.Errno]int{}
	for _, b := range sources(record, h) {
		for _, a := range allAskings(h, limits(h)) {
			x, _ := check(t, b, a, -1, 0)
			told[x.errno]++
		}
	}
	for _, e := range []api.Errno{api.OK, api.ErrArg, api.ErrLimit, api.ErrPictureHead, api.ErrPictureTable, api.ErrPictureLength, api.ErrViewSlice, api.ErrViewRegion} {
		if told[e] == 0 {
			t.Error(e, "is never told")
		}
	}
	if len(told) != 8 {
		t.Error(told)
	}
}

// The same edges, written out.
func TestStepsEdges(t *testing.T) {
	record, h, _ := shown(t)
	n := samples(h.Shape, all(h.Shape))
	good := sources(record, h)
	right := api.Rect{X: 2, Y: 1, W: 4, H: 3}
	wrong := api.Rect{X: 1, Y: 1, W: 4, H: 3}
	for i, x := range []struct {
		source string
		a      asking
		want   api.Errno
		reads  int
	}{
		{"all", asking{what: whole, limit: n}, api.OK, 10},
		{"all", asking{what: whole, limit: n + 1}, api.OK, 10},
		{"all", asking{what: whole, limit: 4194304}, api.OK, 10},
		{"all", asking{what: whole, limit: 4194305}, api.ErrArg, 0},
		{"all", asking{what: whole, limit: -1}, api.ErrArg, 0},
		{"nothing", asking{what: whole, limit: -1}, api.ErrArg, 0},
		{"nothing", asking{what: whole, limit: 0}, api.ErrPictureHead, 0},
		{"31 bytes", asking{what: whole, limit: 0}, api.ErrPictureHead, 1},
		{"31 bytes", asking{what: one, k: -1, limit: 0}, api.ErrPictureHead, 1},
		{"31 bytes", asking{what: region, r: wrong, limit: 0}, api.ErrPictureHead, 1},
		{"no head", asking{what: whole, limit: n}, api.ErrPictureHead, 1},
		{"a head", asking{what: whole, limit: 0}, api.ErrLimit, 1},
		{"a head", asking{what: whole, limit: n - 1}, api.ErrLimit, 1},
		{"all", asking{what: whole, limit: n - 1}, api.ErrLimit, 1},
		{"a head", asking{what: one, k: -1, limit: n - 1}, api.ErrLimit, 1},
		{"a head", asking{what: region, r: wrong, limit: n - 1}, api.ErrLimit, 1},
		{"a head", asking{what: one, k: -1, limit: n}, api.ErrViewSlice, 1},
		{"all", asking{what: one, k: -1, limit: n}, api.ErrViewSlice, 1},
		{"all", asking{what: one, k: 0, limit: n}, api.OK, 3},
		{"all", asking{what: one, k: 7, limit: n}, api.OK, 3},
		{"all", asking{what: one, k: 8, limit: n}, api.ErrViewSlice, 1},
		{"one less", asking{what: one, k: 8, limit: n}, api.ErrViewSlice, 1},
		{"all", asking{what: region, r: right, limit: n}, api.OK, 3},
		{"all", asking{what: region, r: wrong, limit: n}, api.ErrViewRegion, 1},
		{"one more", asking{what: region, r: wrong, limit: n}, api.ErrViewRegion, 1},
		{"one more", asking{what: region, r: right, limit: n}, api.ErrPictureLength, 1},
		{"one less", asking{what: region, r: right, limit: n}, api.ErrPictureLength, 1},
		{"one less", asking{what: one, k: 0, limit: n}, api.ErrPictureLength, 1},
		{"one more", asking{what: whole, limit: n}, api.ErrPictureLength, 1},
		{"one less", asking{what: whole, limit: n}, api.ErrPictureLength, 1},
		{"a head", asking{what: whole, limit: n}, api.ErrPictureLength, 1},
		{"no table, long", asking{what: whole, limit: n}, api.ErrPictureLength, 1},
		{"no table", asking{what: whole, limit: n}, api.ErrPictureTable, 2},
		{"no table", asking{what: one, k: 3, limit: n}, api.ErrPictureTable, 2},
		{"no table", asking{what: one, k: 8, limit: n}, api.ErrViewSlice, 1},
	} {
		src := tapOf(good[x.source])
		got := x.a.of(src)
		if got.errno != x.want || len(src.reads) != x.reads {
			t.Error(i, x.source, x.a, got.errno, src.reads)
		}
		if x.want != api.OK && !got.is(answer{errno: x.want}) {
			t.Error(i, "something beside an error")
		}
	}
}

// A source that is nil is the first thing that is asked.
func TestNilSources(t *testing.T) {
	if h, e := view.Head(nil); h != (api.Head{}) || e != api.ErrArg {
		t.Error(h, e)
	}
	for _, limit := range append(odd(), 0, 100, 4194304, 4194305) {
		for _, a := range []asking{{what: whole, limit: limit}, {what: one, limit: limit}, {what: one, k: -1, limit: limit}, {what: region, limit: limit}, {what: region, r: api.Rect{W: 2, H: 2}, limit: limit}} {
			if x := a.of(nil); !x.is(answer{errno: api.ErrArg}) {
				t.Error(a, x)
			}
		}
	}
}

// V2: the head, and nothing else, whatever stands behind.
func TestV2Head(t *testing.T) {
	record, h, _ := shown(t)
	for name, b := range sources(record, h) {
		src := tapOf(b)
		got, e := view.Head(src)
		want, errno := picture.Head(b)
		if got != want || e != errno {
			t.Error(name, got, e)
		}
		var reads []api.Span
		if n := min(32, len(b)); n > 0 {
			reads = []api.Span{{Length: n}}
		}
		if !slices.Equal(src.reads, reads) {
			t.Error(name, src.reads)
		}
	}
	for n := range 34 {
		src := tapOf(record[:n])
		got, e := view.Head(src)
		if n < 32 && (got != api.Head{} || e != api.ErrPictureHead) || n >= 32 && (got != h || e != api.OK) {
			t.Error(n, got, e)
		}
	}
	for _, e := range []api.Errno{api.ErrMediumRange, api.ErrMediumDead, api.ErrArg, 999, -5} {
		src := tapOf(record)
		src.refuse, src.errno = 0, e
		if got, errno := view.Head(src); got != (api.Head{}) || errno != e || len(src.reads) != 1 {
			t.Error(got, errno, src.reads)
		}
	}
}

// A source may have more bytes than any record or medium: its head is read, and told.
func TestSourcesOfAnySize(t *testing.T) {
	record, h, _ := shown(t)
	n := samples(h.Shape, all(h.Shape))
	for _, size := range []int{1 << 27, 268435456, 268435457, 1 << 31, 1 << 40, math.MaxInt} {
		for _, x := range []struct {
			a    asking
			want api.Errno
		}{
			{asking{what: whole, limit: n}, api.ErrPictureLength}, {asking{what: whole, limit: 4194304}, api.ErrPictureLength}, {asking{what: whole, limit: 0}, api.ErrLimit},
			{asking{what: one, k: 8, limit: n}, api.ErrViewSlice}, {asking{what: one, limit: n}, api.ErrPictureLength},
			{asking{what: region, limit: n}, api.ErrViewRegion}, {asking{what: region, r: all(h.Shape), limit: n}, api.ErrPictureLength},
		} {
			src := tapOf(record)
			src.size = size
			if got := x.a.of(src); !got.is(answer{errno: x.want}) || !slices.Equal(src.reads, []api.Span{{Length: 32}}) {
				t.Error(size, x.a, got.errno, src.reads)
			}
		}
		src := tapOf(record)
		src.size = size
		if got, e := view.Head(src); got != h || e != api.OK {
			t.Error(size, got, e)
		}
	}
}

// Where a Read is refused, that error comes at once: of a record of which all is read, at each call in turn.
func TestReadsRefusedInTurn(t *testing.T) {
	record, h, list := shown(t)
	n := samples(h.Shape, all(h.Shape))
	for _, b := range [][]byte{record, spoilt(record, list, 4), spoilt(record, list, 0, 8), spoilt(record, list, 0, 4, 9)} {
		for _, a := range []asking{{what: whole, limit: n}, {what: one, k: 4, limit: n}, {what: region, r: api.Rect{X: 14, Y: 15, W: 4, H: 2}, limit: n}} {
			_, reads := check(t, b, a, -1, 0)
			for i := range reads {
				for _, e := range []api.Errno{api.ErrMediumRange, api.ErrMediumDead, api.ErrArg, 999, -5} {
					x, some := check(t, b, a, i, e)
					if !x.is(answer{errno: e}) || !slices.Equal(some, reads[:i+1]) {
						t.Fatal(a, i, x.errno, some)
					}
				}
			}
		}
	}
	// Ahead of them all: the arguments; behind the head's: the limit.
	if _, reads := check(t, record, asking{limit: -1}, 0, api.ErrMediumDead); len(reads) != 0 {
		t.Error(reads)
	}
	if x, _ := check(t, record, asking{limit: 0}, 1, api.ErrMediumDead); x.errno != api.ErrLimit {
		t.Error(x.errno)
	}
}

// T7 and P13.5: what is read of a sound record, span by span.
func TestT7ReadInPart(t *testing.T) {
	record, h, list := shown(t)
	n := samples(h.Shape, all(h.Shape))
	front := []api.Span{{Length: 32}, {At: 32, Length: 76}}
	reads := func(a asking, numbers ...int) {
		t.Helper()
		want := slices.Clone(front)
		for _, k := range numbers {
			want = append(want, api.Span{At: list[k].At, Length: list[k].Length})
		}
		src := tapOf(record)
		if x := a.of(src); x.errno != api.OK || !slices.Equal(src.reads, want) || !slices.Equal(x.report.Slices, numbers) {
			t.Error(a, x.errno, x.report.Slices, src.reads, want)
		}
	}
	for k := range 8 {
		reads(asking{what: one, k: k, limit: n}, k)
	}
	reads(asking{what: whole, limit: n}, 0, 1, 2, 3, 4, 5, 6, 7)
	for _, x := range []struct {
		r       api.Rect
		numbers []int
	}{
		{api.Rect{X: 0, Y: 0, W: 16, H: 16}, []int{0}},
		{api.Rect{X: 0, Y: 0, W: 18, H: 16}, []int{0, 1}},
		{api.Rect{X: 14, Y: 0, W: 2, H: 17}, []int{0, 4}},
		{api.Rect{X: 14, Y: 15, W: 4, H: 2}, []int{0, 1, 4, 5}},
		{api.Rect{X: 16, Y: 16, W: 32, H: 4}, []int{5, 6}},
		{api.Rect{X: 50, Y: 19, W: 1, H: 1}, []int{7}},
		{api.Rect{X: 46, Y: 0, W: 5, H: 20}, []int{2, 3, 6, 7}},
		{all(h.Shape), []int{0, 1, 2, 3, 4, 5, 6, 7}},
	} {
		reads(asking{what: region, r: x.r, limit: n}, x.numbers...)
	}
}

// Given, number by number.
func TestGiven(t *testing.T) {
	record, h, list := shown(t)
	n := samples(h.Shape, all(h.Shape)) // 51 20 + 26 20 + 26 20 + 51 20
	total, rows := 0, list[8].Length+list[9].Length
	for _, entry := range list[:8] {
		total += entry.Length
	}
	corner := 2 * (3*4 + 2*4 + 2*4 + 3*4)    // of the slice 7
	first := 2 * (16*16 + 8*16 + 8*16 + 256) // of the slice 0
	front := 32 + 76
	given := func(b []byte, a asking, want int) {
		t.Helper()
		if x := a.of(view.Of(b)); x.errno != api.OK || x.report.Given != want || x.report.Head != h {
			t.Error(a, x.errno, x.report.Given, want)
		}
	}
	if n != 3080 {
		t.Fatal(n)
	}
	given(record, asking{what: whole, limit: n}, front+total+4*n)
	given(record, asking{what: whole, limit: 4194304}, front+total+4*n)
	given(record, asking{what: one, k: 7, limit: n}, front+list[7].Length+corner)
	given(record, asking{what: one, k: 0, limit: n}, front+list[0].Length+first)
	small := asking{what: region, r: api.Rect{X: 50, Y: 18, W: 1, H: 2}, limit: n}
	given(record, small, front+list[7].Length+corner+2*4*2)
	// One is mended; it is asked for alone, or another one is spoilt, too: that is worked out beside it.
	b := spoilt(record, list, 7)
	given(b, asking{what: one, k: 7, limit: n}, front+total+rows+list[7].Length+corner)
	given(b, asking{what: one, k: 0, limit: n}, front+list[0].Length+first)
	given(b, small, front+total+rows+list[7].Length+corner+2*4*2)
	given(b, asking{what: whole, limit: n}, front+total+rows+list[7].Length+4*n)
	b = spoilt(record, list, 3, 7)
	given(b, asking{what: one, k: 7, limit: n}, front+total+rows+list[7].Length+list[3].Length+corner)
	// A parity row that is spoilt is not counted twice; more than parity allows: nothing is worked out.
	b = spoilt(record, list, 7, 8)
	given(b, asking{what: one, k: 7, limit: n}, front+total+rows+list[7].Length+corner)
	b = spoilt(record, list, 3, 7, 8)
	given(b, asking{what: one, k: 7, limit: n}, front+total+rows+corner)
	given(b, asking{what: whole, limit: n}, front+total+rows+4*n)
}

// V6.
func TestV6Bound(t *testing.T) {
	for _, x := range []struct {
		limit, length, want int
		errno               api.Errno
	}{
		{1000, 500, 5000, api.OK}, {-1, 0, 0, api.ErrArg}, {0, -1, 0, api.ErrArg}, {0, 0, 0, api.OK}, {1, 0, 4, api.OK}, {0, 1, 2, api.OK},
		{4194304, 0, 16777216, api.OK}, {4194305, 0, 0, api.ErrArg}, {0, 268435456, 536870912, api.OK}, {0, 268435457, 0, api.ErrArg},
		{4194304, 268435456, 553648128, api.OK}, {4194305, 268435457, 0, api.ErrArg}, {-1, -1, 0, api.ErrArg},
	} {
		if n, e := view.Bound(x.limit, x.length); n != x.want || e != x.errno {
			t.Error(x, n, e)
		}
	}
	for _, x := range odd() {
		for _, y := range append(odd(), 0, 1000) {
			if n, e := view.Bound(x, y); n != 0 || e != api.ErrArg {
				t.Error(x, y, n, e)
			}
			if n, e := view.Bound(y, x); n != 0 || e != api.ErrArg {
				t.Error(y, x, n, e)
			}
		}
	}
}

func TestExampleOfNothing(t *testing.T) {
	src := tapOf(nil)
	if h, e := view.Head(src); h != (api.Head{}) || e != api.ErrPictureHead || len(src.reads) != 0 {
		t.Error(h, e, src.reads)
	}
	if h, e := view.Head(view.Of(nil)); h != (api.Head{}) || e != api.ErrPictureHead {
		t.Error(h, e)
	}
	if f, r, e := view.Whole(nil, 0); len(f.Planes) != 0 || f.Shape != (api.Shape{}) || !sameReports(r, api.Report{}) || e != api.ErrArg {
		t.Error(f, r, e)
	}
}
