package parity_test

import (
	"math"
	"slices"
	"testing"

	"dailies/api"
	"dailies/parity"
)

// sizesOf is how many bytes each row has.
func sizesOf(rows [][]byte) []int {
	sizes := make([]int, len(rows))
	for i, row := range rows {
		sizes[i] = len(row)
	}
	return sizes
}

// without is the rows with something else, of any length, in place of the lost ones; lost are numbers from first on.
func (c *chance) without(rows [][]byte, first int, lost []int) [][]byte {
	out := slices.Clone(rows)
	for _, k := range lost {
		if k >= first && k < first+len(rows) {
			out[k-first] = c.row(c.below(60))
			if c.below(4) == 0 {
				out[k-first] = nil
			}
		}
	}
	return out
}

// subset is the numbers whose bits are ones.
func subset(bits int) []int {
	var out []int
	for k := 0; bits>>k > 0; k++ {
		if bits>>k&1 == 1 {
			out = append(out, k)
		}
	}
	return out
}

// some is so many of the numbers below n, in any order.
func (c *chance) some(many, n int) []int {
	all := make([]int, n)
	for k := range all {
		all[k] = k
		other := c.below(k + 1)
		all[k], all[other] = all[other], all[k]
	}
	return all[:many]
}

// comesBack loses rows and rows more, and holds what Restore tells against what they were.
func (c *chance) comesBack(t *testing.T, rows [][]byte, p int, lost []int) {
	t.Helper()
	more := made(t, rows, p)
	got, e := parity.Restore(c.without(rows, 0, lost), sizesOf(rows), c.without(more, len(rows), lost), lost)
	wantRows(t, "Restore", got, e, slices.Concat(rows, more))
}

func TestQ2Examples(t *testing.T) {
	more := [][]byte{{212, 0, 180}, {48, 0, 253}}
	want := [][]byte{{1, 0, 5}, {2}, {212, 0, 180}, {48, 0, 253}}
	got, e := parity.Restore([][]byte{{7}, nil}, []int{3, 1}, more, []int{0, 1})
	wantRows(t, "lost 0 and 1", got, e, want)
	got, e = parity.Restore([][]byte{{7}, nil}, []int{3, 1}, more, []int{0, 1, 2})
	wantError(t, "lost 0, 1, 2", got, e, api.ErrParityLost)
	got, e = parity.Restore([][]byte{{7}, nil}, []int{3, 1}, more, []int{1})
	wantError(t, "lost 1 alone", got, e, api.ErrParityRows)
	got, e = parity.Restore(nil, nil, [][]byte{{}}, []int{0})
	wantRows(t, "no rows, the row more lost", got, e, [][]byte{{}})
	got, e = parity.Restore([][]byte{{1}}, []int{1}, nil, []int{-1})
	wantError(t, "lost -1", got, e, api.ErrParityRows)
	got, e = parity.Restore([][]byte{{7, 7, 7, 7}, {2}}, []int{3, 1}, [][]byte{nil, {48, 0, 253}}, []int{2, 0, 2})
	wantRows(t, "a row and a row more lost", got, e, want)
}

// TestP5_1WhicheverAreLost goes through all ways to lose p at most, of few rows.
func TestP5_1WhicheverAreLost(t *testing.T) {
	c := chance(20)
	for n := range 6 {
		for p := range 5 {
			rows := c.rows(c.lengths(n, 6)...)
			for bits := range 1 << (n + p) {
				if lost := subset(bits); len(lost) <= p {
					c.comesBack(t, rows, p, lost)
				}
			}
		}
	}
}

func TestP5_1ManyRowsOfAllLengths(t *testing.T) {
	c := chance(21)
	for range 300 {
		n, p := c.below(201), c.below(17)
		rows := c.rows(c.lengths(n, c.below(50))...)
		c.comesBack(t, rows, p, c.some(min(c.below(p+1), n+p), n+p))
	}
	for range 20 {
		rows := c.rows(c.lengths(200, 40)...)
		c.comesBack(t, rows, 16, c.some(16, 216))
		c.comesBack(t, rows, 16, c.some(16, 200))
	}
	c.comesBack(t, c.rows(5000, 0, 70000, 1, 65536), 3, []int{2, 4, 5})
}

func TestQ2AllRowsLostOrAllRowsMore(t *testing.T) {
	c := chance(22)
	for p := range 17 {
		rows := c.rows(c.lengths(p, 20)...)
		all := subset(1<<p - 1)
		c.comesBack(t, rows, p, all)
		slices.Reverse(all)
		c.comesBack(t, rows, p, all)
		for k := range all {
			all[k] += p
		}
		c.comesBack(t, rows, p, all)
		c.comesBack(t, c.rows(c.lengths(200, 3)...), p, subset(1<<p-1))
	}
}

func TestQ2RowsWithoutAByte(t *testing.T) {
	c := chance(23)
	for bits := range 1 << 5 {
		if lost := subset(bits); len(lost) <= 2 {
			c.comesBack(t, c.rows(0, 0, 0), 2, lost)
			c.comesBack(t, c.rows(0, 4, 0), 2, lost)
		}
	}
}

func TestQ2NoRows(t *testing.T) {
	c := chance(24)
	got, e := parity.Restore(nil, nil, nil, nil)
	wantRows(t, "nothing at all", got, e, nil)
	for bits := range 1 << 4 {
		got, e = parity.Restore([][]byte{}, []int{}, c.without(make([][]byte, 4), 0, subset(bits)), subset(bits))
		wantRows(t, "no rows", got, e, make([][]byte, 4))
	}
	got, e = parity.Restore(nil, nil, make([][]byte, 16), nil)
	wantRows(t, "no rows, 16 rows more", got, e, make([][]byte, 16))
	got, e = parity.Restore(nil, nil, [][]byte{{}, {1}}, []int{0})
	wantError(t, "no rows, a row more with a byte", got, e, api.ErrParityRows)
	got, e = parity.Restore(nil, []int{0}, nil, nil)
	wantError(t, "no rows, a size", got, e, api.ErrParityRows)
	got, e = parity.Restore(nil, nil, nil, []int{0})
	wantError(t, "nothing at all, lost 0", got, e, api.ErrParityRows)
}

func TestQ2NoRowsMore(t *testing.T) {
	c := chance(25)
	rows := c.rows(3, 0, 2)
	c.comesBack(t, rows, 0, nil)
	for k := range rows {
		got, e := parity.Restore(rows, []int{3, 0, 2}, nil, []int{k})
		wantError(t, "one lost, no rows more", got, e, api.ErrParityLost)
	}
	got, e := parity.Restore(rows, []int{3, 0, 2}, nil, []int{3})
	wantError(t, "lost 3, of three and none more", got, e, api.ErrParityRows)
}

// TestQ2WhatIsNotLostStays has rows more that are not what Make tells.
func TestQ2WhatIsNotLostStays(t *testing.T) {
	c := chance(26)
	rows, more := c.rows(3, 5, 1), c.rows(5, 5, 5, 5)
	got, e := parity.Restore(rows, []int{3, 5, 1}, more, nil)
	wantRows(t, "nothing lost", got, e, slices.Concat(rows, more))
	got, e = parity.Restore(rows, []int{3, 5, 1}, more, []int{4})
	wantRows(t, "a row more lost", got, e, slices.Concat(rows, more[:1], moreOf(rows, 2)[1:], more[2:]))
}

// TestQ2OnlyTheFirstRowsMoreAreAsked spoils each row more that is not among the r first that are not lost.
func TestQ2OnlyTheFirstRowsMoreAreAsked(t *testing.T) {
	c := chance(27)
	for bits := range 1 << 9 {
		lost := subset(bits)
		if len(lost) > 5 {
			continue
		}
		rows := c.rows(7, 3, 0, 7)
		more := made(t, rows, 5)
		ask := 0
		for _, k := range lost {
			if k < 4 {
				ask++
			}
		}
		want := slices.Clone(more)
		for i := range more {
			switch {
			case slices.Contains(lost, 4+i):
			case ask > 0:
				ask--
			default:
				more[i] = c.row(7)
				want[i] = more[i]
			}
		}
		got, e := parity.Restore(c.without(rows, 0, lost), []int{7, 3, 0, 7}, c.without(more, 4, lost), lost)
		wantRows(t, "rows more behind the first spoilt", got, e, slices.Concat(rows, want))
	}
}

// solved is the row j of a byte each, all others being known, by which the row more i of them is as told: found by trying.
func solved(rows [][]byte, j, i int, told byte) byte {
	for b := range 256 {
		tried := slices.Clone(rows)
		tried[j] = []byte{byte(b)}
		if moreOf(tried, i+1)[i][0] == told {
			return byte(b)
		}
	}
	return 0
}

// TestQ2OneLostRowByAnyRowMore has rows more by chance: whatever they say, the lost row is the one that they ask for.
func TestQ2OneLostRowByAnyRowMore(t *testing.T) {
	c := chance(28)
	for range 60 {
		rows, more := c.rows(1, 1, 1), c.rows(1, 1, 1)
		j, gone := c.below(3), c.below(3)
		first := 0
		if gone == 0 {
			first = 1
		}
		want := slices.Clone(rows)
		want[j] = []byte{solved(rows, j, first, more[first][0])}
		whole := slices.Concat(want, more)
		whole[3+gone] = moreOf(want, 3)[gone]
		lost := []int{3 + gone, j}
		got, e := parity.Restore(c.without(rows, 0, lost), []int{1, 1, 1}, c.without(more, 3, lost), lost)
		wantRows(t, "one row by one row more", got, e, whole)
	}
}

// TestQ2TwoLostRowsByAnyRowsMore finds the two rows by trying all pairs of bytes.
func TestQ2TwoLostRowsByAnyRowsMore(t *testing.T) {
	c := chance(29)
	by := factors(4, 3)
	for range 40 {
		rows, more := c.rows(1, 1, 1), c.rows(1, 1, 1, 1)
		lost := c.some(2, 3)
		rest := 3 - lost[0] - lost[1]
		// The first row more is lost, too: the second and the third one count.
		want, found := slices.Clone(rows), 0
		for pair := range 1 << 16 {
			a, b := byte(pair), byte(pair>>8)
			sum := func(i int) byte {
				return product(by[i][lost[0]], a) ^ product(by[i][lost[1]], b) ^ product(by[i][rest], rows[rest][0])
			}
			if sum(1) == more[1][0] && sum(2) == more[2][0] {
				want[lost[0]], want[lost[1]] = []byte{a}, []byte{b}
				found++
			}
		}
		if found != 1 {
			t.Fatalf("%d answers", found)
		}
		whole := slices.Concat(want, moreOf(want, 1), more[1:])
		lost = append(lost, 3)
		got, e := parity.Restore(c.without(rows, 0, lost), []int{1, 1, 1}, c.without(more, 3, lost), lost)
		wantRows(t, "two rows by two rows more", got, e, whole)
	}
}

// TestQ2BytesBeyondASizeCount has rows more by chance, so that lost rows come out with bytes beyond their sizes. By whole sizes they are told, and by the true ones they are cut off.
func TestQ2BytesBeyondASizeCount(t *testing.T) {
	c := chance(30)
	for range 60 {
		rows, more := c.rows(9, 9, 9, 9), c.rows(9, 9, 9, 9)
		lost := append(c.some(2, 3), 4+c.below(4))
		whole, e := parity.Restore(rows, []int{9, 9, 9, 9}, more, lost)
		if e != api.OK {
			t.Fatal(e)
		}
		sizes, want := []int{9, 9, 9, 9}, slices.Clone(whole)
		for _, k := range lost[:2] {
			sizes[k] = c.below(9)
			want[k] = whole[k][:sizes[k]]
		}
		// What is cut off is not in the rows any more, of which the lost row more is made.
		want[lost[2]] = moreOf(want[:4], 4)[lost[2]-4]
		got, e := parity.Restore(rows, sizes, more, lost)
		wantRows(t, "sizes below the width", got, e, want)
	}
}

func TestQ2ALostRowShorterThanTheWidth(t *testing.T) {
	c := chance(31)
	for size := range 10 {
		rows := c.rows(10, size, 4)
		for _, lost := range [][]int{{1}, {1, 0}, {1, 2}, {1, 3}, {4, 1}, {1, 1, 1}} {
			c.comesBack(t, rows, 2, lost)
		}
	}
}

func TestQ2NumbersThatStandTwice(t *testing.T) {
	c := chance(32)
	rows := c.rows(4, 2, 5)
	c.comesBack(t, rows, 1, []int{2, 2, 2, 2})
	c.comesBack(t, rows, 1, []int{3, 3})
	c.comesBack(t, rows, 2, []int{4, 0, 4, 0, 0})
	c.comesBack(t, rows, 2, slices.Repeat([]int{1, 0}, 10000))
	more := made(t, rows, 2)
	got, e := parity.Restore(rows, []int{4, 2, 5}, more, []int{4, 0, 4, 0, 1, 1})
	wantError(t, "three lost, each twice", got, e, api.ErrParityLost)
}

func TestQ2MoreLostThanRowsMore(t *testing.T) {
	c := chance(33)
	for n := range 6 {
		for p := range 4 {
			rows := c.rows(c.lengths(n, 4)...)
			for bits := range 1 << (n + p) {
				if lost := subset(bits); len(lost) > p {
					got, e := parity.Restore(rows, sizesOf(rows), made(t, rows, p), lost)
					wantError(t, "one more lost", got, e, api.ErrParityLost)
				}
			}
		}
	}
	rows := c.rows(c.lengths(200, 4)...)
	got, e := parity.Restore(rows, sizesOf(rows), made(t, rows, 16), c.some(17, 216))
	wantError(t, "17 lost", got, e, api.ErrParityLost)
	all := subset(1<<17 - 1)
	got, e = parity.Restore(rows, sizesOf(rows), made(t, rows, 16), all)
	wantError(t, "17 rows lost", got, e, api.ErrParityLost)
}

func TestQ2TooMany(t *testing.T) {
	many, seventeen := make([][]byte, 201), make([][]byte, 17)
	for what, x := range map[string]struct {
		rows  [][]byte
		sizes []int
		more  [][]byte
		lost  []int
	}{
		"201 rows":                      {many, make([]int, 201), make([][]byte, 1), nil},
		"201 rows, no rows more":        {many, make([]int, 201), nil, nil},
		"17 rows more":                  {make([][]byte, 3), make([]int, 3), seventeen, nil},
		"17 rows more, no rows":         {nil, nil, seventeen, nil},
		"17 rows more, 17 lost":         {make([][]byte, 20), make([]int, 20), seventeen, subset(1<<17 - 1)},
		"both":                          {many, make([]int, 201), seventeen, nil},
		"201 rows, and no sizes":        {many, nil, nil, nil},
		"201 rows, and lost -1":         {many, make([]int, 201), nil, []int{-1}},
		"17 rows more, and lost 20":     {make([][]byte, 3), make([]int, 3), seventeen, []int{20}},
		"17 rows more, and a size of 9": {make([][]byte, 1), []int{9}, seventeen, nil},
		"201 rows, and one lost":        {many, make([]int, 201), nil, []int{0}},
		"201 rows, and all lost":        {many, make([]int, 201), nil, subset(1<<30 - 1)},
	} {
		got, e := parity.Restore(x.rows, x.sizes, x.more, x.lost)
		wantError(t, what, got, e, api.ErrParityMany)
	}
	c := chance(34)
	c.comesBack(t, c.rows(c.lengths(200, 2)...), 16, nil)
}

func TestQ2SizesThatDoNotFit(t *testing.T) {
	c := chance(35)
	rows := c.rows(3, 5, 1)
	more := made(t, rows, 2)
	for what, sizes := range map[string][]int{
		"none":                    nil,
		"too few":                 {3, 5},
		"too many":                {3, 5, 1, 0},
		"far too many":            make([]int, 300),
		"below 0":                 {3, 5, -1},
		"below 0, of a lost row":  {-1, 5, 1},
		"the least int":           {math.MinInt, 5, 1},
		"the greatest int":        {math.MaxInt, 5, 1},
		"a byte more than may be": {1<<24 + 1, 5, 1},
		"a byte less than it has": {3, 4, 1},
		"a byte more than it has": {3, 5, 2},
		"nought, where it has":    {3, 5, 0},
		"of another row":          {3, 1, 5},
	} {
		got, e := parity.Restore(rows, sizes, more, []int{0})
		wantError(t, what, got, e, api.ErrParityRows)
		// Four are lost, too many, but that is named behind.
		got, e = parity.Restore(rows, sizes, append(more, []byte{}), []int{0, 3, 4, 5})
		wantError(t, what+", and too many lost", got, e, api.ErrParityRows)
	}
	got, e := parity.Restore(c.rows(2, 2), []int{2, 1}, c.rows(2), []int{0, 1})
	wantError(t, "sizes of lost rows are not held against them", got, e, api.ErrParityLost)
	// What a lost row's size makes the width is held against the rows more.
	for _, lost := range [][]int{{1}, {1, 0, 2}, {3, 0, 1}} {
		for _, size := range []int{0, 4, 6, 1 << 24} {
			got, e = parity.Restore(rows, []int{3, size, 1}, more, lost)
			wantError(t, "rows more that are not as long as the width", got, e, api.ErrParityRows)
		}
	}
}

func TestQ2RowsMoreThatDoNotFit(t *testing.T) {
	c := chance(36)
	rows := c.rows(3, 5, 1)
	for _, length := range []int{0, 3, 4, 6, 100} {
		for i := range 3 {
			more := made(t, rows, 3)
			more[i] = c.row(length)
			got, e := parity.Restore(rows, []int{3, 5, 1}, more, nil)
			wantError(t, "a row more of another length", got, e, api.ErrParityRows)
			got, e = parity.Restore(rows, []int{3, 5, 1}, more, []int{1})
			wantError(t, "a row more of another length, a row lost", got, e, api.ErrParityRows)
			got, e = parity.Restore(rows, []int{3, 5, 1}, more, []int{3 + i})
			wantRows(t, "a row more of another length, lost", got, e, slices.Concat(rows, made(t, rows, 3)))
		}
	}
}

func TestQ2NumbersOfNothing(t *testing.T) {
	c := chance(37)
	rows := c.rows(2, 3)
	more := made(t, rows, 2)
	for _, k := range []int{-1, -2, 4, 5, 300, math.MaxInt, math.MinInt} {
		for _, lost := range [][]int{{k}, {0, k}, {k, 1, 1}, {0, 1, 2, 3, k}, {k, 0, 1, 2, 3}} {
			got, e := parity.Restore(rows, []int{2, 3}, more, lost)
			wantError(t, "a number of nothing", got, e, api.ErrParityRows)
		}
	}
	for k := range 4 {
		c.comesBack(t, rows, 2, []int{k})
	}
}

func TestQ2TheLongestRow(t *testing.T) {
	c := chance(38)
	const most = 1 << 24
	long := make([]byte, most)
	copy(long, c.row(1000))
	copy(long[most-1000:], c.row(1000))
	rows := [][]byte{c.row(10), long}
	more := made(t, rows, 2)
	beyond := make([]byte, most+1)
	got, e := parity.Restore([][]byte{rows[0], beyond}, []int{10, most}, [][]byte{beyond, more[1]}, []int{1, 2})
	if e != api.OK || !same(got, slices.Concat(rows, more)) {
		t.Error("the longest row and a row more lost:", e)
	}
	got, e = parity.Restore([][]byte{rows[0], beyond}, []int{10, most + 1}, more, []int{1})
	wantError(t, "a size above the most", got, e, api.ErrParityRows)
	got, e = parity.Restore([][]byte{rows[0], beyond}, []int{10, most + 1}, [][]byte{beyond}, nil)
	wantError(t, "a row above the most", got, e, api.ErrParityRows)
	// It stands in place of a lost one, so that nobody looks.
	got, e = parity.Restore([][]byte{beyond, {7}}, []int{1, 1}, made(t, [][]byte{{5}, {7}}, 1), []int{0})
	wantRows(t, "a row above the most, lost", got, e, slices.Concat([][]byte{{5}, {7}}, moreOf([][]byte{{5}, {7}}, 1)))
}
