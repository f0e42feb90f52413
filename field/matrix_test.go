package field_test

import (
	"bytes"
	"math"
	"slices"
	"testing"

	"dailies/api"
	"dailies/field"
)

// same tells whether two matrices have the same rows.
func same(a, b [][]byte) bool { return slices.EqualFunc(a, b, bytes.Equal) }

// timesOf is the chapter's sum of products, element by element.
func timesOf(m, v [][]byte, width int) [][]byte {
	out := make([][]byte, len(m))
	for i := range m {
		out[i] = make([]byte, width)
		for c := range width {
			for j := range v {
				out[i][c] ^= product(m[i][j], v[j][c])
			}
		}
	}
	return out
}

// determinant goes by the first column's minors; elements are their own opposites, so no sign is needed.
func determinant(m [][]byte) byte {
	if len(m) == 0 {
		return 1
	}
	sum := byte(0)
	for i := range m {
		if m[i][0] == 0 {
			continue
		}
		var minor [][]byte
		for k := range m {
			if k != i {
				minor = append(minor, m[k][1:])
			}
		}
		sum ^= product(m[i][0], determinant(minor))
	}
	return sum
}

// unit is the matrix that changes nothing.
func unit(n int) [][]byte {
	m := flat(n, n, 0)
	for i := range m {
		m[i][i] = 1
	}
	return m
}

// flat is a matrix of one element everywhere.
func flat(rows, cols int, element byte) [][]byte {
	m := make([][]byte, rows)
	for i := range m {
		m[i] = bytes.Repeat([]byte{element}, cols)
	}
	return m
}

// solvable is a matrix by chance that can be solved: a unit one whose rows have been added to one another, scaled and moved.
func (c *chance) solvable(n int) [][]byte {
	m := unit(n)
	for range 6 * n {
		a, b, factor := c.below(n), c.below(n), byte(1+c.below(255))
		for k := range m[a] {
			if a == b {
				m[a][k] = product(m[a][k], factor)
			} else {
				m[a][k] ^= product(m[b][k], factor)
			}
		}
		b = c.below(n)
		m[a], m[b] = m[b], m[a]
	}
	return m
}

// wantRows holds a matrix and its error against what they must be.
func wantRows(t *testing.T, what string, got [][]byte, e api.Errno, want [][]byte) {
	t.Helper()
	if e != api.OK || !same(got, want) {
		t.Fatalf("%s: %v, %v; want %v", what, got, e, want)
	}
}

// wantError holds an error against what it must be; no matrix stands beside it.
func wantError(t *testing.T, what string, got [][]byte, e, want api.Errno) {
	t.Helper()
	if e != want || len(got) != 0 {
		t.Fatalf("%s: %v, %v; want %v", what, got, e, want)
	}
}

func TestF4TimesIsTheSumOfProducts(t *testing.T) {
	c := chance(6)
	for rows := range 7 {
		for inner := 1; inner < 7; inner++ {
			for width := range 7 {
				m, v := c.matrix(rows, inner), c.matrix(inner, width)
				got, e := field.Times(m, v)
				wantRows(t, "Times", got, e, timesOf(m, v, width))
			}
		}
	}
	for _, x := range [][3]int{{256, 256, 1}, {256, 1, 3}, {1, 256, 300}, {3, 5, 1000}, {255, 256, 2}, {2, 2, 70000}} {
		m, v := c.matrix(x[0], x[1]), c.matrix(x[1], x[2])
		got, e := field.Times(m, v)
		wantRows(t, "Times", got, e, timesOf(m, v, x[2]))
	}
}

func TestF4TimesTellsEveryProduct(t *testing.T) {
	all := make([]byte, 256)
	for i := range all {
		all[i] = byte(i)
	}
	for a := range 256 {
		m := [][]byte{{byte(a)}}
		got, e := field.Times(m, [][]byte{all})
		wantRows(t, "Times", got, e, timesOf(m, [][]byte{all}, 256))
	}
}

func TestF4TimesExample(t *testing.T) {
	got, e := field.Times([][]byte{{1, 1}, {0, 2}}, [][]byte{{5}, {128}})
	wantRows(t, "Times", got, e, [][]byte{{133}, {101}})
}

func TestF4TimesOfNothing(t *testing.T) {
	c := chance(7)
	for _, m := range [][][]byte{nil, {}} {
		for _, v := range [][][]byte{nil, {}, {{}}, {nil, {}}, {{1, 2}}, c.matrix(256, 3)} {
			got, e := field.Times(m, v)
			wantRows(t, "Times of m without rows", got, e, nil)
		}
	}
	for _, rows := range []int{1, 2, 256} {
		for _, v := range [][][]byte{nil, {}} {
			got, e := field.Times(make([][]byte, rows), v)
			wantRows(t, "Times by v without rows", got, e, flat(rows, 0, 0))
		}
		got, e := field.Times(c.matrix(rows, 3), [][]byte{{}, nil, {}})
		wantRows(t, "Times by rows of no elements", got, e, flat(rows, 0, 0))
	}
}

func TestF4TimesOfShapesThatDoNotFit(t *testing.T) {
	c := chance(8)
	uneven := func(rows, cols, at, by int) [][]byte {
		m := c.matrix(rows, cols)
		m[at] = c.row(cols + by)
		return m
	}
	for what, x := range map[string][2][][]byte{
		"m of 257 rows":                          {c.matrix(257, 2), c.matrix(2, 2)},
		"m of 257 rows without elements":         {make([][]byte, 257), nil},
		"v of 257 rows":                          {c.matrix(2, 257), c.matrix(257, 2)},
		"v of 257 rows, m without rows":          {nil, c.matrix(257, 2)},
		"v of 257 rows of no elements":           {nil, make([][]byte, 257)},
		"both of 257 rows":                       {c.matrix(257, 257), c.matrix(257, 1)},
		"m's rows too long":                      {c.matrix(2, 3), c.matrix(2, 2)},
		"m's rows too short":                     {c.matrix(2, 1), c.matrix(2, 2)},
		"m's rows of no elements":                {c.matrix(1, 0), c.matrix(1, 1)},
		"m's rows of one, v without rows":        {c.matrix(1, 1), nil},
		"m's first row too long":                 {uneven(3, 2, 0, 1), c.matrix(2, 2)},
		"m's last row too long":                  {uneven(3, 2, 2, 1), c.matrix(2, 2)},
		"m's last row too short":                 {uneven(3, 2, 2, -1), c.matrix(2, 2)},
		"v's first row too long":                 {c.matrix(2, 3), uneven(3, 2, 0, 1)},
		"v's last row too long":                  {c.matrix(2, 3), uneven(3, 2, 2, 1)},
		"v's last row too short":                 {c.matrix(2, 3), uneven(3, 2, 2, -1)},
		"v's last row of no elements":            {c.matrix(2, 3), uneven(3, 2, 2, -2)},
		"v's first row of no elements":           {c.matrix(2, 3), uneven(3, 2, 0, -2)},
		"v's rows not all as long, m without":    {nil, uneven(3, 2, 1, 1)},
		"v's rows not all as long, m of noughts": {flat(2, 3, 0), uneven(3, 2, 2, 1)},
	} {
		got, e := field.Times(x[0], x[1])
		wantError(t, what, got, e, api.ErrFieldShape)
	}
}

func TestF5SolveFindsTheRows(t *testing.T) {
	c := chance(9)
	for n := 1; n < 20; n++ {
		for _, width := range []int{0, 1, 2, 17, 300} {
			m, x := c.solvable(n), c.matrix(n, width)
			got, e := field.Solve(m, timesOf(m, x, width))
			wantRows(t, "Solve", got, e, x)
		}
	}
}

func TestF5SolveOf256Rows(t *testing.T) {
	c := chance(10)
	m, x := c.solvable(256), c.matrix(256, 3)
	got, e := field.Solve(m, timesOf(m, x, 3))
	wantRows(t, "Solve of 256 rows", got, e, x)
	// Of the unit matrix put upside down every first row begins with 0.
	turned := unit(256)
	slices.Reverse(turned)
	want := slices.Clone(x)
	slices.Reverse(want)
	got, e = field.Solve(turned, x)
	wantRows(t, "Solve of 256 rows upside down", got, e, want)
	m[255] = slices.Clone(m[0])
	got, e = field.Solve(m, x)
	wantError(t, "Solve of 256 rows, one twice", got, e, api.ErrFieldSingular)
}

func TestF5SolveExamples(t *testing.T) {
	got, e := field.Solve([][]byte{{2}}, [][]byte{{1, 0, 101}})
	wantRows(t, "Solve", got, e, [][]byte{{178, 0, 128}})
	for _, v := range [][][]byte{{{1}, {2}}, {{1}, {1}}, {{0}, {0}}, {{}, {}}, {{7, 8}, {9, 10}}} {
		got, e := field.Solve([][]byte{{1, 1}, {1, 1}}, v)
		wantError(t, "Solve of a row twice", got, e, api.ErrFieldSingular)
	}
	got, e = field.Solve([][]byte{{0, 1}, {1, 0}}, [][]byte{{7}, {9}})
	wantRows(t, "Solve of a first row that begins with 0", got, e, [][]byte{{9}, {7}})
	got, e = field.Solve([][]byte{{0, 0, 3}, {0, 5, 1}, {7, 2, 1}}, [][]byte{{3}, {4}, {4}})
	wantRows(t, "Solve of rows that begin with 0", got, e, [][]byte{{1}, {1}, {1}})
}

// TestF5SolveKnowsWhatCanBeSolved goes through all matrices of two rows over some elements, and some of more by chance, by their determinants.
func TestF5SolveKnowsWhatCanBeSolved(t *testing.T) {
	c := chance(11)
	some := []byte{0, 1, 2, 3, 178, 255}
	check := func(m [][]byte) {
		v := c.matrix(len(m), 2)
		x, e := field.Solve(m, v)
		if determinant(m) == 0 {
			wantError(t, "Solve", x, e, api.ErrFieldSingular)
			return
		}
		wantRows(t, "Solve", timesOf(m, x, 2), e, v)
	}
	for code := range 6 * 6 * 6 * 6 {
		check([][]byte{{some[code%6], some[code/6%6]}, {some[code/36%6], some[code/216]}})
	}
	for range 3000 {
		m := make([][]byte, 1+c.below(5))
		for i := range m {
			m[i] = make([]byte, len(m))
			for j := range m {
				// Few elements, so that many cannot be solved.
				m[i][j] = byte(c.below(3))
			}
		}
		check(m)
	}
}

// TestF5SingularIsMoreThanOneAnswer counts, for all matrices of two rows over three elements, the lists that go to noughts.
func TestF5SingularIsMoreThanOneAnswer(t *testing.T) {
	for code := range 3 * 3 * 3 * 3 {
		m := [][]byte{{byte(code % 3), byte(code / 3 % 3)}, {byte(code / 9 % 3), byte(code / 27)}}
		count := 0
		for x := range 1 << 16 {
			list := []byte{byte(x), byte(x >> 8)}
			a, b := product(m[0][0], list[0])^product(m[0][1], list[1]), product(m[1][0], list[0])^product(m[1][1], list[1])
			if a == 0 && b == 0 {
				count++
			}
		}
		_, e := field.Solve(m, [][]byte{{0}, {0}})
		if (count == 1) != (e == api.OK) || (count != 1) != (e == api.ErrFieldSingular) {
			t.Fatalf("%v: %d lists go to noughts, %v", m, count, e)
		}
	}
}

func TestF5SolveOfWhatCannotBeSolved(t *testing.T) {
	c := chance(12)
	for _, n := range []int{1, 2, 3, 10, 64, 256} {
		got, e := field.Solve(flat(n, n, 0), c.matrix(n, 2))
		wantError(t, "Solve of noughts", got, e, api.ErrFieldSingular)
		if n == 1 {
			continue
		}
		got, e = field.Solve(flat(n, n, 255), c.matrix(n, 2))
		wantError(t, "Solve of equal rows", got, e, api.ErrFieldSingular)
		for _, at := range []int{0, n / 2, n - 1} {
			m := c.solvable(n)
			m[at] = make([]byte, n)
			got, e = field.Solve(m, c.matrix(n, 1))
			wantError(t, "Solve with a row of noughts", got, e, api.ErrFieldSingular)
			m = c.solvable(n)
			for _, row := range m {
				row[at] = 0
			}
			got, e = field.Solve(m, c.matrix(n, 1))
			wantError(t, "Solve with a column of noughts", got, e, api.ErrFieldSingular)
			m = c.solvable(n)
			m[at] = slices.Clone(m[(at+1)%n])
			got, e = field.Solve(m, c.matrix(n, 0))
			wantError(t, "Solve with a row twice", got, e, api.ErrFieldSingular)
		}
	}
}

func TestF5SolveOfNothing(t *testing.T) {
	for _, m := range [][][]byte{nil, {}} {
		for _, v := range [][][]byte{nil, {}} {
			got, e := field.Solve(m, v)
			wantRows(t, "Solve of m without rows", got, e, nil)
		}
	}
	got, e := field.Solve([][]byte{{1, 2}, {3, 4}}, [][]byte{nil, {}})
	wantRows(t, "Solve by rows of no elements", got, e, [][]byte{{}, {}})
}

// TestF5SolveOfShapesThatDoNotFit has the matrices of noughts, so that each might be told as singular, too.
func TestF5SolveOfShapesThatDoNotFit(t *testing.T) {
	uneven := func(rows, cols, at, by int) [][]byte {
		m := flat(rows, cols, 0)
		m[at] = make([]byte, cols+by)
		return m
	}
	for what, x := range map[string][2][][]byte{
		"m of 257 rows":                   {flat(257, 257, 0), flat(257, 1, 0)},
		"m of 257 rows, solvable":         {unit(257), flat(257, 1, 0)},
		"m of 257 rows without elements":  {make([][]byte, 257), make([][]byte, 257)},
		"m broader than high":             {flat(2, 3, 0), flat(2, 1, 0)},
		"m higher than broad":             {flat(3, 2, 0), flat(3, 1, 0)},
		"m's rows of no elements":         {flat(1, 0, 0), flat(1, 1, 0)},
		"m's first row too long":          {uneven(3, 3, 0, 1), flat(3, 1, 0)},
		"m's last row too long":           {uneven(3, 3, 2, 1), flat(3, 1, 0)},
		"m's last row too short":          {uneven(3, 3, 2, -1), flat(3, 1, 0)},
		"v with a row more":               {flat(2, 2, 0), flat(3, 1, 0)},
		"v with a row more, solvable":     {unit(2), flat(3, 1, 0)},
		"v with a row less":               {flat(2, 2, 0), flat(1, 1, 0)},
		"v with a row less, solvable":     {unit(2), flat(1, 1, 0)},
		"v without rows":                  {flat(1, 1, 0), nil},
		"m without rows":                  {nil, flat(1, 1, 0)},
		"m without rows, v of no element": {nil, flat(1, 0, 0)},
		"v of 257 rows":                   {flat(256, 256, 0), flat(257, 1, 0)},
		"v's first row too long":          {flat(3, 3, 0), uneven(3, 2, 0, 1)},
		"v's last row too long":           {flat(3, 3, 0), uneven(3, 2, 2, 1)},
		"v's last row too short":          {flat(3, 3, 0), uneven(3, 2, 2, -1)},
		"v's last row too long, solvable": {unit(3), uneven(3, 2, 2, 1)},
		"v's middle row of no elements":   {unit(3), uneven(3, 1, 1, -1)},
		"v's first row of no elements":    {unit(3), uneven(3, 1, 0, -1)},
	} {
		got, e := field.Solve(x[0], x[1])
		wantError(t, what, got, e, api.ErrFieldShape)
	}
}

func TestF6CauchyHasTheInverses(t *testing.T) {
	all := inverses(t)
	for _, x := range [][2]int{{1, 1}, {1, 2}, {2, 1}, {1, 255}, {255, 1}, {128, 128}, {16, 200}, {200, 56}, {3, 5}, {100, 156}} {
		want := make([][]byte, x[0])
		for i := range want {
			want[i] = make([]byte, x[1])
			for j := range want[i] {
				want[i][j] = all[(255-i)^j]
			}
		}
		got, e := field.Cauchy(x[0], x[1])
		wantRows(t, "Cauchy", got, e, want)
	}
}

func TestF6CauchyExamples(t *testing.T) {
	a, _ := field.Inv(255)
	b, _ := field.Inv(254)
	got, e := field.Cauchy(1, 2)
	wantRows(t, "Cauchy(1, 2)", got, e, [][]byte{{a, b}})
}

func TestF6CauchyOfSizesThatMayNotBe(t *testing.T) {
	for _, x := range [][2]int{{0, 1}, {1, 0}, {0, 0}, {-1, 1}, {1, -1}, {-1, -1}, {-1, 257}, {257, -1}, {200, 57}, {57, 200}, {1, 256}, {256, 1}, {255, 2}, {128, 129}, {129, 128}, {256, 0}, {0, 256},
		{math.MaxInt, math.MaxInt}, {math.MaxInt, 1}, {1, math.MaxInt}, {math.MinInt, math.MinInt}, {math.MinInt, 1}, {1, math.MinInt}, {math.MaxInt, math.MinInt}, {math.MinInt, math.MaxInt}, {1 << 62, 1 << 62}} {
		got, e := field.Cauchy(x[0], x[1])
		wantError(t, "Cauchy", got, e, api.ErrFieldShape)
	}
}

// part is the rows and columns of a matrix that are told by the bits of two numbers.
func part(m [][]byte, rows, cols int) [][]byte {
	var out [][]byte
	for i := range m {
		if rows>>i&1 == 0 {
			continue
		}
		row := []byte{}
		for j := range m[i] {
			if cols>>j&1 == 1 {
				row = append(row, m[i][j])
			}
		}
		out = append(out, row)
	}
	return out
}

func TestP4_3EverySquarePartOfASmallCauchy(t *testing.T) {
	m, e := field.Cauchy(5, 6)
	if e != api.OK {
		t.Fatal(e)
	}
	tried := 0
	for rows := range 1 << 5 {
		for cols := range 1 << 6 {
			p := part(m, rows, cols)
			if len(p) == 0 || len(p) != len(p[0]) {
				continue
			}
			if _, e := field.Solve(p, make([][]byte, len(p))); e != api.OK {
				t.Fatalf("rows %b, columns %b: %v", rows, cols, e)
			}
			tried++
		}
	}
	// Of 11 things 5 are taken in 462 ways; one of these is the part of no rows.
	if tried != 461 {
		t.Errorf("%d parts tried", tried)
	}
}

// take is some n numbers below all, in the order of chance.
func (c *chance) take(n, all int) []int {
	numbers := make([]int, all)
	for i := range numbers {
		numbers[i] = i
	}
	for i := range n {
		k := i + c.below(all-i)
		numbers[i], numbers[k] = numbers[k], numbers[i]
	}
	return numbers[:n]
}

func TestP4_3SquarePartsOfGreatCauchys(t *testing.T) {
	c := chance(13)
	for _, size := range [][2]int{{128, 128}, {16, 200}, {200, 56}, {1, 255}, {255, 1}, {100, 156}} {
		m, e := field.Cauchy(size[0], size[1])
		if e != api.OK {
			t.Fatal(e)
		}
		for range 40 {
			n := 1 + c.below(min(size[0], size[1]))
			rows, cols := c.take(n, size[0]), c.take(n, size[1])
			p := flat(n, n, 0)
			for i := range p {
				for j := range p {
					p[i][j] = m[rows[i]][cols[j]]
				}
			}
			if _, e := field.Solve(p, c.matrix(n, 1)); e != api.OK {
				t.Fatalf("a part of %d rows of Cauchy(%d, %d): %v", n, size[0], size[1], e)
			}
		}
	}
	m, _ := field.Cauchy(128, 128)
	if _, e := field.Solve(m, make([][]byte, 128)); e != api.OK {
		t.Error("the whole of Cauchy(128, 128):", e)
	}
}

func TestP4_4ThereAndBack(t *testing.T) {
	c := chance(14)
	for _, n := range []int{1, 2, 3, 5, 8, 13, 40, 100, 256} {
		m, v := c.solvable(n), c.matrix(n, 4)
		x, e := field.Solve(m, v)
		if e != api.OK {
			t.Fatal(n, e)
		}
		got, e := field.Times(m, x)
		wantRows(t, "Times(m, Solve(m, v))", got, e, v)
		w, e := field.Times(m, v)
		if e != api.OK {
			t.Fatal(n, e)
		}
		got, e = field.Solve(m, w)
		wantRows(t, "Solve(m, Times(m, x))", got, e, v)
	}
}

// roomy is a matrix whose rows, and whose list of rows, stand within greater ones; whole tells those.
func (c *chance) roomy(m [][]byte) (roomy [][]byte, whole [][]byte) {
	whole = make([][]byte, len(m)+2)
	for i := range whole {
		whole[i] = c.row(5)
		if i < len(m) {
			whole[i] = slices.Concat(m[i], c.row(5))
		}
	}
	roomy = make([][]byte, len(m)+2)
	copy(roomy, whole)
	for i := range m {
		roomy[i] = whole[i][:len(m[i])]
	}
	return roomy[:len(m)], whole
}

// kept is a function that tells whether a roomy matrix is as it was.
func kept(roomy, whole [][]byte) func() bool {
	var before [][]byte
	for _, row := range whole {
		before = append(before, slices.Clone(row))
	}
	all := roomy[:cap(roomy)]
	lengths := make([]int, len(all))
	for i, row := range all {
		lengths[i] = len(row)
	}
	return func() bool {
		for i, row := range all {
			if len(row) != lengths[i] || len(row) > 0 && &row[0] != &whole[i][0] {
				return false
			}
		}
		return same(whole, before)
	}
}

// overwrite writes into each row of an answer and into its spare room, with the number of the row.
func overwrite(rows [][]byte) {
	for i, row := range rows {
		for k := range row[:cap(row)] {
			row[:cap(row)][k] = byte(i + 1)
		}
	}
}

// apart tells whether all rows that were overwritten are as that left them: none shares memory with another one.
func apart(rows [][]byte) bool {
	for i, row := range rows {
		for _, element := range row[:cap(row)] {
			if element != byte(i+1) {
				return false
			}
		}
	}
	return true
}

func TestP3WhatIsHandedInStaysAndAnswersAreNew(t *testing.T) {
	c := chance(15)
	for _, n := range []int{1, 2, 3, 7} {
		for _, x := range [][2][][]byte{{c.solvable(n), c.matrix(n, 4)}, {unit(n), c.matrix(n, 4)}, {flat(n, n, 0), c.matrix(n, 4)}, {c.solvable(n), c.matrix(n+1, 3)}, {flat(n, n, 1), c.matrix(n, 1)}} {
			m, mWhole := c.roomy(x[0])
			v, vWhole := c.roomy(x[1])
			mKept, vKept := kept(m, mWhole), kept(v, vWhole)
			for what, call := range map[string]func([][]byte, [][]byte) ([][]byte, api.Errno){"Times": field.Times, "Solve": field.Solve} {
				first, e := call(m, v)
				second, again := call(m, v)
				if e != again || !same(first, second) {
					t.Fatalf("%s: the second answer is another one", what)
				}
				both := slices.Concat(first, second)
				overwrite(both)
				if !apart(both) || !mKept() || !vKept() {
					t.Fatalf("%s of %d rows: memory is shared or written into", what, n)
				}
			}
		}
	}
}

func TestP3DotLeavesItsLists(t *testing.T) {
	c := chance(16)
	a, b := c.row(40), c.row(40)
	beforeA, beforeB := slices.Clone(a), slices.Clone(b)
	field.Dot(a[:30], b[:30])
	field.Dot(a[:30], b[:29])
	if !bytes.Equal(a, beforeA) || !bytes.Equal(b, beforeB) {
		t.Error("Dot wrote into what it was handed")
	}
}

func TestP3CauchyIsNewEachTime(t *testing.T) {
	first, _ := field.Cauchy(20, 30)
	second, _ := field.Cauchy(20, 30)
	both := slices.Concat(first, second)
	overwrite(both)
	third, e := field.Cauchy(20, 30)
	if e != api.OK || !apart(both) || same(first, third) {
		t.Error("Cauchy's answers share memory")
	}
	all := inverses(t)
	if third[19][29] != all[(255-19)^29] {
		t.Error("Cauchy's answer hangs on what was done to the last one")
	}
}

// TestP3OneListAsBoth hands in a matrix that is both arguments, and has one row twice.
func TestP3OneListAsBoth(t *testing.T) {
	m := [][]byte{{0, 1}, {2, 3}}
	got, e := field.Solve(m, m)
	wantRows(t, "Solve(m, m)", got, e, unit(2))
	got, e = field.Times(m, m)
	wantRows(t, "Times(m, m)", got, e, timesOf(m, m, 2))
	row := []byte{9, 8}
	got, e = field.Solve(m, [][]byte{row, row})
	wantRows(t, "Solve by a row twice", timesOf(m, got, 2), e, [][]byte{{9, 8}, {9, 8}})
	got, e = field.Times([][]byte{row, row}, m)
	overwrite(got)
	if e != api.OK || !apart(got) || !same(m, [][]byte{{0, 1}, {2, 3}}) || !bytes.Equal(row, []byte{9, 8}) {
		t.Error("rows that stand twice share their answers")
	}
}
