package field_test

import (
	"math"
	"math/big"
	"testing"

	"dailies/api"
	"dailies/field"
)

// chance is a row of numbers that look like chance and are the same each time.
type chance uint64

func (c *chance) below(n int) int {
	*c = *c*6364136223846793005 + 1442695040888963407
	return int(uint64(*c)>>33) % n
}

func (c *chance) row(n int) []byte {
	row := make([]byte, n)
	for i := range row {
		row[i] = byte(c.below(256))
	}
	return row
}

func (c *chance) matrix(rows, cols int) [][]byte {
	m := make([][]byte, rows)
	for i := range m {
		m[i] = c.row(cols)
	}
	return m
}

// product multiplies as the chapter says: the polynomials whole, and then the rest of the division by 357.
func product(a, b byte) byte {
	whole := 0
	for bit := range 8 {
		if b&(1<<bit) != 0 {
			whole ^= int(a) << bit
		}
	}
	for degree := 14; degree >= 8; degree-- {
		if whole&(1<<degree) != 0 {
			whole ^= 357 << (degree - 8)
		}
	}
	return byte(whole)
}

// inverses are found by trying all elements.
func inverses(t *testing.T) [256]byte {
	t.Helper()
	var all [256]byte
	for a := 1; a < 256; a++ {
		found := 0
		for b := range 256 {
			if product(byte(a), byte(b)) == 1 {
				all[a] = byte(b)
				found++
			}
		}
		if found != 1 {
			t.Fatalf("%d has %d inverses", a, found)
		}
	}
	return all
}

// power is n times a, one by one.
func power(a byte, n int) byte {
	p := byte(1)
	for range n {
		p = product(p, a)
	}
	return p
}

// wantOne holds one element and its error against what they must be.
func wantOne(t *testing.T, what string, got byte, e api.Errno, want byte, wantE api.Errno) {
	t.Helper()
	if got != want || e != wantE {
		t.Fatalf("%s: %d, %v; want %d, %v", what, got, e, want, wantE)
	}
}

func TestF1MulIsTheProductOfPolynomials(t *testing.T) {
	for a := range 256 {
		for b := range 256 {
			if got, want := field.Mul(byte(a), byte(b)), product(byte(a), byte(b)); got != want {
				t.Fatalf("Mul(%d, %d) = %d, want %d", a, b, got, want)
			}
		}
	}
}

func TestF1MulExamples(t *testing.T) {
	for _, x := range [][3]byte{{2, 128, 101}, {3, 7, 9}, {2, 178, 1}, {0, 0, 0}, {0, 255, 0}, {1, 255, 255}, {255, 1, 255}, {1, 1, 1}, {16, 16, 101}} {
		if got := field.Mul(x[0], x[1]); got != x[2] {
			t.Errorf("Mul(%d, %d) = %d, want %d", x[0], x[1], got, x[2])
		}
	}
}

func TestF1InvIsTheOneInverse(t *testing.T) {
	all := inverses(t)
	for a := 1; a < 256; a++ {
		got, e := field.Inv(byte(a))
		wantOne(t, "Inv", got, e, all[a], api.OK)
	}
	got, e := field.Inv(0)
	wantOne(t, "Inv(0)", got, e, 0, api.ErrFieldZero)
	got, e = field.Inv(2)
	wantOne(t, "Inv(2)", got, e, 178, api.OK)
	got, e = field.Inv(1)
	wantOne(t, "Inv(1)", got, e, 1, api.OK)
}

func TestF1DivIsTheProductWithTheInverse(t *testing.T) {
	all := inverses(t)
	for a := range 256 {
		got, e := field.Div(byte(a), 0)
		wantOne(t, "Div by 0", got, e, 0, api.ErrFieldZero)
		for b := 1; b < 256; b++ {
			got, e := field.Div(byte(a), byte(b))
			wantOne(t, "Div", got, e, product(byte(a), all[b]), api.OK)
		}
	}
	got, e := field.Div(1, 2)
	wantOne(t, "Div(1, 2)", got, e, 178, api.OK)
}

func TestF2PowOfNumbersAboveNought(t *testing.T) {
	for a := range 256 {
		want := byte(1)
		for n := range 600 {
			got, e := field.Pow(byte(a), n)
			wantOne(t, "Pow", got, e, want, api.OK)
			want = product(want, byte(a))
		}
	}
}

func TestF2PowOfNumbersBelowNought(t *testing.T) {
	all := inverses(t)
	for a := 1; a < 256; a++ {
		want := byte(1)
		for n := 0; n > -600; n-- {
			got, e := field.Pow(byte(a), n)
			wantOne(t, "Pow", got, e, want, api.OK)
			want = product(want, all[a])
		}
	}
}

func TestF2PowOfNought(t *testing.T) {
	for _, n := range []int{-1, -2, -254, -255, -256, -510, math.MinInt, math.MinInt + 1} {
		got, e := field.Pow(0, n)
		wantOne(t, "Pow of 0", got, e, 0, api.ErrFieldZero)
	}
	for _, n := range []int{1, 2, 254, 255, 256, 510, math.MaxInt, math.MaxInt - 1} {
		got, e := field.Pow(0, n)
		wantOne(t, "Pow of 0", got, e, 0, api.OK)
	}
	got, e := field.Pow(0, 0)
	wantOne(t, "Pow(0, 0)", got, e, 1, api.OK)
}

func TestF2PowAtTheEndsOfInts(t *testing.T) {
	c := chance(2)
	ends := []int{math.MaxInt, math.MaxInt - 1, math.MinInt, math.MinInt + 1, math.MaxInt32, math.MinInt32, math.MaxInt / 255 * 255, -(math.MaxInt / 255 * 255)}
	for range 50 {
		ends = append(ends, c.below(1<<30)<<33|c.below(1<<30), -(c.below(1<<30)<<33 | c.below(1<<30)))
	}
	for _, n := range ends {
		// An element's powers come again after 255, those of below 0 as well.
		rest := int(new(big.Int).Mod(big.NewInt(int64(n)), big.NewInt(255)).Int64())
		for a := 1; a < 256; a++ {
			got, e := field.Pow(byte(a), n)
			wantOne(t, "Pow", got, e, power(byte(a), rest), api.OK)
		}
	}
}

func TestF2PowExamples(t *testing.T) {
	for _, x := range []struct {
		a    byte
		n    int
		want byte
		e    api.Errno
	}{{0, 0, 1, api.OK}, {0, -1, 0, api.ErrFieldZero}, {2, -1, 178, api.OK}, {2, 8, 101, api.OK}, {2, 255, 1, api.OK}, {2, 256, 2, api.OK}, {2, 254, 178, api.OK}, {2, -255, 1, api.OK}, {1, math.MinInt, 1, api.OK}, {255, 1, 255, api.OK}} {
		got, e := field.Pow(x.a, x.n)
		wantOne(t, "Pow", got, e, x.want, x.e)
	}
}

func TestF3DotIsTheSumOfProducts(t *testing.T) {
	c := chance(3)
	for length := range 300 {
		a, b := c.row(length), c.row(length)
		want := byte(0)
		for i := range a {
			want ^= product(a[i], b[i])
		}
		got, e := field.Dot(a, b)
		wantOne(t, "Dot", got, e, want, api.OK)
	}
	got, e := field.Dot([]byte{1, 2}, []byte{3, 3})
	wantOne(t, "Dot of 1 2 and 3 3", got, e, 5, api.OK)
}

func TestF3DotOfNone(t *testing.T) {
	for _, a := range [][]byte{nil, {}} {
		for _, b := range [][]byte{nil, {}} {
			got, e := field.Dot(a, b)
			wantOne(t, "Dot of none", got, e, 0, api.OK)
		}
	}
}

func TestF3DotOfUnlikeLengths(t *testing.T) {
	c := chance(4)
	for _, x := range [][2]int{{0, 1}, {1, 0}, {1, 2}, {2, 1}, {255, 256}, {300, 1}, {1000, 1001}} {
		got, e := field.Dot(c.row(x[0]), c.row(x[1]))
		wantOne(t, "Dot of unlike lengths", got, e, 0, api.ErrFieldShape)
	}
}

func TestP4_1ProductsMayBeTakenInAnyOrderAndBrackets(t *testing.T) {
	for a := range 256 {
		for b := range 256 {
			x, y := byte(a), byte(b)
			if field.Mul(x, y) != field.Mul(y, x) {
				t.Fatalf("%d by %d is not %d by %d", a, b, b, a)
			}
			for z := range 256 {
				z := byte(z)
				if field.Mul(field.Mul(x, y), z) != field.Mul(x, field.Mul(y, z)) {
					t.Fatalf("brackets matter at %d, %d, %d", x, y, z)
				}
				if field.Mul(x, y^z) != field.Mul(x, y)^field.Mul(x, z) {
					t.Fatalf("a product with a sum is not the sum of the products at %d, %d, %d", x, y, z)
				}
			}
		}
	}
}

func TestP4_1NoughtAndOne(t *testing.T) {
	for a := range 256 {
		x := byte(a)
		if field.Mul(x, 1) != x || field.Mul(1, x) != x || field.Mul(x, 0) != 0 || field.Mul(0, x) != 0 {
			t.Errorf("0 or 1 by %d", a)
		}
		for b := 1; a > 0 && b < 256; b++ {
			if field.Mul(x, byte(b)) == 0 {
				t.Errorf("%d by %d is 0", a, b)
			}
		}
	}
}

func TestP4_1InversesAndQuotients(t *testing.T) {
	for a := 1; a < 256; a++ {
		x := byte(a)
		inverse, e := field.Inv(x)
		if e != api.OK || inverse == 0 || field.Mul(x, inverse) != 1 {
			t.Errorf("Inv(%d) = %d, %v", a, inverse, e)
		}
		back, e := field.Inv(inverse)
		wantOne(t, "Inv of Inv", back, e, x, api.OK)
		for b := range 256 {
			q, e := field.Div(byte(b), x)
			if e != api.OK || field.Mul(q, x) != byte(b) {
				t.Errorf("Div(%d, %d) = %d, %v", b, a, q, e)
			}
		}
	}
}

// generates tells whether the powers of a from 0 to 254 are all elements but 0, each once.
func generates(t *testing.T, a byte) bool {
	t.Helper()
	var times [256]int
	for n := range 255 {
		p, e := field.Pow(a, n)
		if e != api.OK {
			t.Fatalf("Pow(%d, %d): %v", a, n, e)
		}
		times[p]++
	}
	for element, n := range times {
		if element == 0 && n != 0 || element > 0 && n != 1 {
			return false
		}
	}
	return true
}

func TestP4_2TwoIsTheLeastGenerator(t *testing.T) {
	if generates(t, 0) || generates(t, 1) || !generates(t, 2) {
		t.Error(generates(t, 0), generates(t, 1), generates(t, 2))
	}
}

func TestP4AnswersHangOnArgumentsAlone(t *testing.T) {
	c := chance(5)
	for range 200 {
		a, b, n := byte(c.below(256)), byte(c.below(256)), c.below(1<<30)-1<<29
		first, firstE := field.Pow(a, n)
		field.Inv(b)
		field.Div(b, a)
		field.Cauchy(1+c.below(9), 1+c.below(9))
		second, secondE := field.Pow(a, n)
		wantOne(t, "Pow again", second, secondE, first, firstE)
	}
}
