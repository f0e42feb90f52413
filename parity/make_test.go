package parity_test

import (
	"bytes"
	"fmt"
	"math"
	"slices"
	"testing"

	"dailies/api"
	"dailies/field"
	"dailies/parity"
)

// chance is a row of numbers that look like chance and are the same each time.
type chance uint64

func (c *chance) below(n int) int {
	*c = *c*6364136223846793005 + 1442695040888963407
	return int(uint64(*c)>>33) % n
}

func (c *chance) row(n int) []byte {
	row := make([]byte, n)
	for i := range row {
		row[i] = byte(c.below(256))
	}
	return row
}

// rows has one row for each length.
func (c *chance) rows(lengths ...int) [][]byte {
	rows := make([][]byte, len(lengths))
	for i, length := range lengths {
		rows[i] = c.row(length)
	}
	return rows
}

// lengths are n numbers from 0 to most.
func (c *chance) lengths(n, most int) []int {
	out := make([]int, n)
	for i := range out {
		out[i] = c.below(most + 1)
	}
	return out
}

// product multiplies elements as field's chapter says: the polynomials whole, and then the rest of the division by 357.
func product(a, b byte) byte {
	whole := 0
	for bit := range 8 {
		if b&(1<<bit) != 0 {
			whole ^= int(a) << bit
		}
	}
	for degree := 14; degree >= 8; degree-- {
		if whole&(1<<degree) != 0 {
			whole ^= 357 << (degree - 8)
		}
	}
	return byte(whole)
}

// factors is Cauchy's matrix, its inverses found by trying all elements.
func factors(p, n int) [][]byte {
	out := make([][]byte, p)
	for i := range out {
		out[i] = make([]byte, n)
		for j := range out[i] {
			for product(out[i][j], byte(255-i)^byte(j)) != 1 {
				out[i][j]++
			}
		}
	}
	return out
}

// widthOf is the length of the longest row.
func widthOf(rows [][]byte) int {
	width := 0
	for _, row := range rows {
		width = max(width, len(row))
	}
	return width
}

// moreOf is what Make must tell, byte by byte.
func moreOf(rows [][]byte, p int) [][]byte {
	by := factors(p, len(rows))
	out := make([][]byte, p)
	for i := range out {
		out[i] = make([]byte, widthOf(rows))
		for x := range out[i] {
			for j, row := range rows {
				if x < len(row) {
					out[i][x] ^= product(by[i][j], row[x])
				}
			}
		}
	}
	return out
}

// same tells whether two lists have the same rows.
func same(a, b [][]byte) bool { return slices.EqualFunc(a, b, bytes.Equal) }

// made is Make that must not be refused.
func made(t *testing.T, rows [][]byte, p int) [][]byte {
	t.Helper()
	more, e := parity.Make(rows, p)
	if e != api.OK {
		t.Fatalf("Make of %d rows and %d: %v", len(rows), p, e)
	}
	return more
}

// brief tells rows in no more than some bytes: they may be long.
func brief(rows [][]byte) string {
	text := fmt.Sprint(len(rows), " rows ", rows[:min(len(rows), 20)])
	return text[:min(len(text), 300)]
}

// wantRows holds rows and their error against what they must be.
func wantRows(t *testing.T, what string, got [][]byte, e api.Errno, want [][]byte) {
	t.Helper()
	if e != api.OK || !same(got, want) {
		t.Fatalf("%s: %s, %v; want %s", what, brief(got), e, brief(want))
	}
}

// wantError holds an error against what it must be; no rows stand beside it.
func wantError(t *testing.T, what string, got [][]byte, e, want api.Errno) {
	t.Helper()
	if e != want || len(got) != 0 {
		t.Fatalf("%s: %d rows, %v; want %v", what, len(got), e, want)
	}
}

func TestQ1MakeIsTheSumByCauchy(t *testing.T) {
	c := chance(1)
	for n := range 9 {
		for p := range 17 {
			for _, most := range []int{0, 1, 3, 40} {
				rows := c.rows(c.lengths(n, most)...)
				got, e := parity.Make(rows, p)
				wantRows(t, "Make", got, e, moreOf(rows, p))
			}
		}
	}
	for _, x := range [][3]int{{200, 16, 9}, {200, 1, 50}, {199, 15, 3}, {17, 16, 300}, {1, 16, 1000}, {2, 2, 5000}} {
		rows := c.rows(c.lengths(x[0], x[2])...)
		got, e := parity.Make(rows, x[1])
		wantRows(t, "Make", got, e, moreOf(rows, x[1]))
	}
}

// TestQ1MakeStandsOnField has one row of all bytes at each place, so that each element of Cauchy's matrix meets each byte.
func TestQ1MakeStandsOnField(t *testing.T) {
	all := make([]byte, 256)
	for i := range all {
		all[i] = byte(i)
	}
	by, e := field.Cauchy(16, 200)
	if e != api.OK || !same(by, factors(16, 200)) {
		t.Fatal("Cauchy", e)
	}
	for j := range 200 {
		rows := make([][]byte, 200)
		rows[j] = all
		for i, row := range made(t, rows, 16) {
			for x, got := range row {
				if want := field.Mul(by[i][j], byte(x)); len(row) != 256 || got != want {
					t.Fatalf("row more %d, of row %d alone, byte %d: %d, want %d", i, j, x, got, want)
				}
			}
		}
	}
}

func TestQ1MakeExamples(t *testing.T) {
	got, e := parity.Make([][]byte{{1, 0, 5}, {2}}, 2)
	wantRows(t, "Make", got, e, [][]byte{{212, 0, 180}, {48, 0, 253}})
	got, e = parity.Make([][]byte{{1, 0}, {0, 1}}, 2)
	wantRows(t, "Make of ones", got, e, [][]byte{{36, 120}, {120, 36}})
	got, e = parity.Make(nil, 2)
	wantRows(t, "Make of no rows", got, e, [][]byte{{}, {}})
	got, e = parity.Make([][]byte{{1}}, 0)
	wantRows(t, "Make of p 0", got, e, nil)
}

func TestQ1MakeOfNothing(t *testing.T) {
	for _, rows := range [][][]byte{nil, {}, {nil}, {{}}, {nil, {}, nil}, make([][]byte, 200)} {
		for _, p := range []int{0, 1, 2, 15, 16} {
			got, e := parity.Make(rows, p)
			wantRows(t, "Make of rows without a byte", got, e, make([][]byte, p))
		}
	}
}

func TestQ1AByteThatARowHasNotCountsAsNought(t *testing.T) {
	c := chance(2)
	for range 100 {
		rows := c.rows(c.lengths(1+c.below(20), 30)...)
		even := make([][]byte, len(rows))
		for j := range even {
			even[j] = make([]byte, widthOf(rows))
			copy(even[j], rows[j])
		}
		p := c.below(17)
		got, e := parity.Make(rows, p)
		wantRows(t, "Make of rows filled up", got, e, made(t, even, p))
		if p > 0 && len(got[p-1]) != widthOf(rows) {
			t.Fatalf("%d bytes, of the width %d", len(got[p-1]), widthOf(rows))
		}
	}
}

func TestQ1MakeOfTooMany(t *testing.T) {
	c := chance(3)
	long := make([]byte, 1<<24+1)
	many := make([][]byte, 201)
	for what, x := range map[string]struct {
		rows [][]byte
		p    int
	}{
		"201 rows":                       {many, 1},
		"201 rows, p 0":                  {many, 0},
		"201 rows, p 17":                 {many, 17},
		"300 rows with bytes":            {c.rows(c.lengths(300, 5)...), 2},
		"p 17":                           {[][]byte{{1}}, 17},
		"p -1":                           {[][]byte{{1}}, -1},
		"p 17 of no rows":                {nil, 17},
		"p -1 of no rows":                {nil, -1},
		"the greatest p":                 {[][]byte{{1}}, math.MaxInt},
		"the least p":                    {[][]byte{{1}}, math.MinInt},
		"p 256":                          {[][]byte{{1}}, 256},
		"201 rows, one of them too long": {slices.Concat(many[:200], [][]byte{long}), 1},
		"p 17, and a row too long":       {[][]byte{long}, 17},
		"p -1, and a row too long":       {[][]byte{long}, -1},
	} {
		got, e := parity.Make(x.rows, x.p)
		wantError(t, what, got, e, api.ErrParityMany)
	}
}

func TestQ1MakeOfRowsThatAreTooLong(t *testing.T) {
	long := make([]byte, 1<<24+1)
	for what, x := range map[string]struct {
		rows [][]byte
		p    int
	}{
		"one row":               {[][]byte{long}, 1},
		"the first row":         {[][]byte{long, {1}, nil}, 1},
		"the last row":          {[][]byte{{1}, nil, long}, 2},
		"one row, p 0":          {[][]byte{long}, 0},
		"one row, p 16":         {[][]byte{long}, 16},
		"the last of 200 rows":  {slices.Concat(make([][]byte, 199), [][]byte{long}), 16},
		"the first of 200 rows": {slices.Concat([][]byte{long}, make([][]byte, 199)), 16},
	} {
		got, e := parity.Make(x.rows, x.p)
		wantError(t, what, got, e, api.ErrParityRows)
	}
}

func TestQ1MakeOfTheLongestRow(t *testing.T) {
	long := make([]byte, 1<<24)
	long[0], long[1<<24-1] = 7, 9
	by := factors(2, 2)
	for i, row := range made(t, [][]byte{{5}, long}, 2) {
		first, last := product(by[i][0], 5)^product(by[i][1], 7), product(by[i][1], 9)
		if len(row) != 1<<24 || row[0] != first || row[1<<24-1] != last || !bytes.Equal(row[1:1<<24-1], long[1:1<<24-1]) {
			t.Errorf("row more %d: %d bytes, from %d to %d; want %d to %d", i, len(row), row[0], row[len(row)-1], first, last)
		}
	}
	if got := made(t, [][]byte{long}, 0); len(got) != 0 {
		t.Error("p 0:", len(got))
	}
}

func TestP5_2MakeIsTheSameForEachByteAlone(t *testing.T) {
	c := chance(4)
	for range 50 {
		rows := c.rows(c.lengths(1+c.below(12), 20)...)
		p := 1 + c.below(16)
		more := made(t, rows, p)
		for x := range widthOf(rows) {
			column := make([][]byte, len(rows))
			for j, row := range rows {
				if x < len(row) {
					column[j] = row[x : x+1]
				}
			}
			for i, row := range made(t, column, p) {
				if len(row) != 1 || row[0] != more[i][x] {
					t.Fatalf("byte %d of the row more %d: %v alone, %d among others", x, i, row, more[i][x])
				}
			}
		}
	}
}

func TestP5_2ByteXHangsOnByteXOnly(t *testing.T) {
	c := chance(5)
	for range 200 {
		rows := c.rows(c.lengths(1+c.below(12), 20)...)
		p, j := 1+c.below(16), c.below(len(rows))
		if len(rows[j]) == 0 {
			continue
		}
		before := made(t, rows, p)
		at := c.below(len(rows[j]))
		rows[j][at] ^= byte(1 + c.below(255))
		for i, row := range made(t, rows, p) {
			for x := range row {
				if (row[x] != before[i][x]) != (x == at) {
					t.Fatalf("byte %d of a row is another one: byte %d of the row more %d was %d, is %d", at, x, i, before[i][x], row[x])
				}
			}
		}
	}
}

// sums are the rows whose bytes are the sums of two lists' rows.
func sums(a, b [][]byte) [][]byte {
	out := make([][]byte, len(a))
	for i := range a {
		out[i] = make([]byte, len(a[i]))
		for x := range a[i] {
			out[i][x] = a[i][x] ^ b[i][x]
		}
	}
	return out
}

func TestP5_2MakeOfSumsIsTheSum(t *testing.T) {
	c := chance(6)
	for range 200 {
		lengths, p := c.lengths(c.below(30), 50), c.below(17)
		a, b := c.rows(lengths...), c.rows(lengths...)
		got, e := parity.Make(sums(a, b), p)
		wantRows(t, "Make of sums", got, e, sums(made(t, a, p), made(t, b, p)))
	}
}
