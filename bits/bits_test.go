package bits_test

import (
	"math"
	"slices"
	"strconv"
	"strings"
	"testing"

	"dailies/api"
	"dailies/bits"
)

// wrongWidths are widths that neither Put nor Get nor Zeros takes.
var wrongWidths = []int{math.MinInt, math.MinInt32, -33, -1, 33, 34, 64, 65, 256, math.MaxInt32, math.MaxInt}

// sampleBytes are the readers' bytes of these tests: noughts, ones, and both in many ways.
var sampleBytes = [][]byte{
	nil,
	{},
	{0},
	{1},
	{8},
	{128},
	{255},
	{176, 0},
	{0, 0, 0, 0},
	{0, 0, 0, 0, 0, 0, 0, 0, 0},
	{0, 0, 0, 1, 0, 0, 0, 0, 0, 1},
	{0, 0, 0, 0, 128, 0, 0},
	{255, 255, 255, 255, 255, 255, 255},
	{1, 35, 69, 103, 137, 171, 205, 239},
	{202, 254, 0, 0, 17, 3, 0, 0, 64},
}

// chance is a row of numbers that look like chance and are the same each time.
type chance uint64

func (c *chance) next() uint64 {
	*c = *c*6364136223846793005 + 1442695040888963407
	x := uint64(*c)
	return x ^ x>>29 ^ x<<17
}

func (c *chance) below(n int) int { return int(c.next() >> 8 % uint64(n)) }

// digits is a number in base 2, in just n digits, told apart from how the program does it.
func digits(v uint64, n int) string {
	if n == 0 {
		return ""
	}
	s := strconv.FormatUint(v, 2)
	return strings.Repeat("0", n-len(s)) + s
}

// digitsOf are the bits of bytes.
func digitsOf(b []byte) string {
	var s strings.Builder
	for _, x := range b {
		s.WriteString(digits(uint64(x), 8))
	}
	return s.String()
}

// number is what digits say; of none 0.
func number(t *testing.T, s string) uint64 {
	t.Helper()
	if s == "" {
		return 0
	}
	v, err := strconv.ParseUint(s, 2, 64)
	if err != nil {
		t.Fatal(err)
	}
	return v
}

// put lays down what must go.
func put(t *testing.T, w *bits.Writer, v uint32, n int) {
	t.Helper()
	if e := w.Put(v, n); e != api.OK {
		t.Fatalf("Put(%d, %d): %v", v, n, e)
	}
}

// isWriter holds a writer against the digits that it should have.
func isWriter(t *testing.T, w *bits.Writer, want string) {
	t.Helper()
	if w.Len() != len(want) {
		t.Fatalf("Len is %d, not %d", w.Len(), len(want))
	}
	b := w.Bytes()
	if len(b) != (len(want)+7)/8 {
		t.Fatalf("Bytes has %d bytes for %d bits", len(b), len(want))
	}
	filled := want + strings.Repeat("0", 8*len(b)-len(want))
	if got := digitsOf(b); got != filled {
		t.Fatalf("Bytes is %s, not %s", got, filled)
	}
}

// readerAt is a reader of bytes of which so many bits are taken.
func readerAt(t *testing.T, b []byte, taken int) *bits.Reader {
	t.Helper()
	r := bits.NewReader(b)
	for range taken {
		if _, e := r.Get(1); e != api.OK {
			t.Fatalf("Get(1): %v", e)
		}
	}
	return r
}

// isReader holds what is left of a reader against digits, and takes it.
func isReader(t *testing.T, r *bits.Reader, want string) {
	t.Helper()
	if r.Left() != len(want) {
		t.Fatalf("Left is %d, not %d", r.Left(), len(want))
	}
	for i := range len(want) {
		v, e := r.Get(1)
		if e != api.OK || v != uint32(want[i]-'0') {
			t.Fatalf("bit %d of %s: %d, %v", i, want, v, e)
		}
	}
}

// B1: a new writer has no bits; B2: of no bits there are no bytes.
func TestNewWriterHasNothing(t *testing.T) {
	w := bits.NewWriter()
	if w.Len() != 0 || len(w.Bytes()) != 0 {
		t.Errorf("Len %d, Bytes %v", w.Len(), w.Bytes())
	}
	put(t, w, 0, 0)
	isWriter(t, w, "")
}

// B1: a width out of 0 to 32, whatever the number; it is told ahead of the value.
func TestPutWidth(t *testing.T) {
	for _, n := range wrongWidths {
		for _, v := range []uint32{0, 1, math.MaxUint32} {
			w := bits.NewWriter()
			put(t, w, 5, 3)
			if e := w.Put(v, n); e != api.ErrBitsWidth {
				t.Errorf("Put(%d, %d): %v", v, n, e)
			}
			isWriter(t, w, "101")
		}
	}
}

// B1: of n bits the numbers below 2^n go, and no others; with an error no bit more is there.
func TestPutValue(t *testing.T) {
	for n := range 33 {
		greatest := uint64(1)<<n - 1
		w := bits.NewWriter()
		put(t, w, 1, 1)
		put(t, w, uint32(greatest), n)
		put(t, w, 0, n)
		want := "1" + strings.Repeat("1", n) + strings.Repeat("0", n)
		isWriter(t, w, want)
		if n == 32 {
			continue
		}
		for _, v := range []uint32{uint32(greatest + 1), uint32(greatest + 1 + greatest/2), 1 << 31, math.MaxUint32} {
			if e := w.Put(v, n); e != api.ErrBitsValue {
				t.Errorf("Put(%d, %d): %v", v, n, e)
			}
			isWriter(t, w, want)
		}
		put(t, w, 1, 1)
		isWriter(t, w, want+"1")
	}
}

// B1, B2: digits stand one behind the other, the highest first; telling them changes nothing.
func TestWriterAgainstDigits(t *testing.T) {
	c := chance(1)
	for range 40 {
		w, want := bits.NewWriter(), ""
		for range 60 {
			n := c.below(33)
			v := c.next() & (1<<n - 1)
			put(t, w, uint32(v), n)
			want += digits(v, n)
			isWriter(t, w, want)
			isWriter(t, w, want)
		}
	}
}

// B1: each width behind each beginning of a byte.
func TestPutAtEveryPlace(t *testing.T) {
	for ahead := range 9 {
		for n := range 33 {
			for _, v := range []uint64{0, 1, 0x80000000, 0xffffffff, 0xdeadbeef, 0x01234567} {
				v &= 1<<n - 1
				w := bits.NewWriter()
				put(t, w, uint32(1<<ahead-1), ahead)
				put(t, w, uint32(v), n)
				isWriter(t, w, strings.Repeat("1", ahead)+digits(v, n))
			}
		}
	}
}

// B2: a last byte that is not full has noughts behind its bits; a full one has none more behind it.
func TestBytesFilling(t *testing.T) {
	for n := 1; n <= 17; n++ {
		w := bits.NewWriter()
		for range n {
			put(t, w, 1, 1)
		}
		b := w.Bytes()
		if len(b) != (n+7)/8 {
			t.Fatalf("%d bits: %v", n, b)
		}
		if last := byte(0xff << (8*len(b) - n)); b[len(b)-1] != last {
			t.Errorf("%d bits: the last byte is %d, not %d", n, b[len(b)-1], last)
		}
	}
}

// P3: what Bytes answers is the caller's: he may write into it and behind it.
func TestBytesAreNew(t *testing.T) {
	for _, n := range []int{8, 12, 16, 31} {
		w := bits.NewWriter()
		put(t, w, 0, n)
		want := strings.Repeat("0", n)
		first, second := w.Bytes(), w.Bytes()
		for i := range first[:cap(first)] {
			first[:cap(first)][i] = 255
		}
		if strings.Contains(digitsOf(second), "1") {
			t.Errorf("%d bits: two answers share memory", n)
		}
		isWriter(t, w, want)
		put(t, w, 0, 32)
		isWriter(t, w, want+strings.Repeat("0", 32))
		third := w.Bytes()
		put(t, w, math.MaxUint32, 32)
		if strings.Contains(digitsOf(third), "1") {
			t.Errorf("%d bits: a later Put is seen in an answer", n)
		}
	}
}

// B3: all bits are left at first, of no bytes none.
func TestNewReader(t *testing.T) {
	for _, b := range sampleBytes {
		r := bits.NewReader(b)
		if r.Left() != 8*len(b) {
			t.Errorf("%v: Left is %d", b, r.Left())
		}
		isReader(t, r, digitsOf(b))
		if r.Left() != 0 {
			t.Errorf("%v: Left is %d at the end", b, r.Left())
		}
	}
}

// P3: a reader keeps none of what it is made of, and writes into none of it.
func TestReaderKeepsNothing(t *testing.T) {
	room := []byte{1, 2, 3, 4, 170, 187}
	want := slices.Clone(room)
	r := bits.NewReader(room[:4])
	if v, e := r.Get(4); v != 0 || e != api.OK {
		t.Fatal(v, e)
	}
	r.Zeros(32)
	r.Rest()
	if !slices.Equal(room, want) {
		t.Errorf("written into: %v", room)
	}
	left := r.Left()
	for i := range room {
		room[i] = 255
	}
	isReader(t, r, digitsOf(want[:4])[32-left:])
	r = bits.NewReader(want[:4])
	for range 5 {
		r.Get(8)
	}
	if v, e := r.Get(1); v != 0 || e != api.ErrBitsEnd {
		t.Errorf("spare room is read: %d, %v", v, e)
	}
}

// B4: each width from each place: the number, or ErrBitsEnd and nothing taken.
func TestGetEverywhere(t *testing.T) {
	for _, b := range sampleBytes {
		all := digitsOf(b)
		for at := 0; at <= len(all); at++ {
			for n := range 33 {
				r := readerAt(t, b, at)
				v, e := r.Get(n)
				if at+n > len(all) {
					if v != 0 || e != api.ErrBitsEnd {
						t.Fatalf("%v at %d: Get(%d): %d, %v", b, at, n, v, e)
					}
					isReader(t, r, all[at:])
					continue
				}
				if want := number(t, all[at:at+n]); uint64(v) != want || e != api.OK {
					t.Fatalf("%v at %d: Get(%d): %d, %v, not %d", b, at, n, v, e, want)
				}
				isReader(t, r, all[at+n:])
			}
		}
	}
}

// B4: a width out of 0 to 32 is told ahead of the end, and nothing is taken.
func TestGetWidth(t *testing.T) {
	for _, b := range sampleBytes {
		for _, n := range wrongWidths {
			r := bits.NewReader(b)
			if v, e := r.Get(n); v != 0 || e != api.ErrBitsWidth {
				t.Errorf("%v: Get(%d): %d, %v", b, n, v, e)
			}
			isReader(t, r, digitsOf(b))
		}
	}
}

// zerosOf is what Zeros should answer for digits, and how many it takes, told bit by bit.
func zerosOf(s string, most int) (noughts, taken int, e api.Errno) {
	for i := 0; ; i++ {
		if i == most {
			return most, most, api.OK
		}
		if i == len(s) {
			return 0, 0, api.ErrBitsEnd
		}
		if s[i] == '1' {
			return i, i + 1, api.OK
		}
	}
}

// B5: each most from each place, also where the bits end ahead of a one.
func TestZerosEverywhere(t *testing.T) {
	for _, b := range sampleBytes {
		all := digitsOf(b)
		for at := 0; at <= len(all); at++ {
			for most := range 33 {
				r := readerAt(t, b, at)
				want, taken, errno := zerosOf(all[at:], most)
				if n, e := r.Zeros(most); n != want || e != errno {
					t.Fatalf("%v at %d: Zeros(%d): %d, %v, not %d, %v", b, at, most, n, e, want, errno)
				}
				isReader(t, r, all[at+taken:])
			}
		}
	}
}

// B5: where most noughts stand ahead of a one, that one is not taken; with one nought fewer it is.
func TestZerosLeavesTheOne(t *testing.T) {
	for most := 1; most <= 32; most++ {
		w := bits.NewWriter()
		put(t, w, 0, most)
		put(t, w, 3, 2)
		r := bits.NewReader(w.Bytes())
		if n, e := r.Zeros(most); n != most || e != api.OK {
			t.Fatalf("Zeros(%d): %d, %v", most, n, e)
		}
		if v, e := r.Get(2); v != 3 || e != api.OK {
			t.Errorf("behind Zeros(%d): %d, %v", most, v, e)
		}
		r = readerAt(t, w.Bytes(), 1)
		if n, e := r.Zeros(most); n != most-1 || e != api.OK {
			t.Fatalf("Zeros(%d) of one fewer: %d, %v", most, n, e)
		}
		if v, e := r.Get(1); v != 1 || e != api.OK {
			t.Errorf("behind Zeros(%d) of one fewer: %d, %v", most, v, e)
		}
	}
}

// B5: Zeros(0) takes nothing, even where nothing is left; a most out of 0 to 32 is told ahead of the end.
func TestZerosWidth(t *testing.T) {
	for _, b := range sampleBytes {
		r := bits.NewReader(b)
		if n, e := r.Zeros(0); n != 0 || e != api.OK {
			t.Errorf("%v: Zeros(0): %d, %v", b, n, e)
		}
		for _, most := range wrongWidths {
			if n, e := r.Zeros(most); n != 0 || e != api.ErrBitsWidth {
				t.Errorf("%v: Zeros(%d): %d, %v", b, most, n, e)
			}
		}
		isReader(t, r, digitsOf(b))
	}
}

// B6: fewer than eight bits, all noughts; from each place, and nothing is taken.
func TestRestEverywhere(t *testing.T) {
	several := slices.Clone(sampleBytes)
	for x := range 256 {
		several = append(several, []byte{byte(x)}, []byte{255, byte(x)})
	}
	for _, b := range several {
		all := digitsOf(b)
		for at := 0; at <= len(all); at++ {
			want := api.ErrBitsRest
			if left := all[at:]; len(left) < 8 && !strings.Contains(left, "1") {
				want = api.OK
			}
			r := readerAt(t, b, at)
			if e := r.Rest(); e != want {
				t.Fatalf("%v at %d: Rest: %v, not %v", b, at, e, want)
			}
			isReader(t, r, all[at:])
		}
	}
}

// B7: Big of 0 and 9 bytes, and others that may not be: told ahead of the value.
func TestBigWidth(t *testing.T) {
	for _, n := range []uint64{0, 1, 256, math.MaxUint64} {
		for _, bytes := range []int{math.MinInt, math.MinInt32, -8, -1, 0, 9, 10, 16, 256, math.MaxInt32, math.MaxInt} {
			if b, e := bits.Big(n, bytes); len(b) != 0 || e != api.ErrBitsWidth {
				t.Errorf("Big(%d, %d): %v, %v", n, bytes, b, e)
			}
		}
	}
}

// B7, P1.2: of each number of bytes the greatest goes, and one more does not.
func TestBigValue(t *testing.T) {
	for bytes := 1; bytes <= 8; bytes++ {
		greatest := uint64(1)<<(8*bytes) - 1
		for _, n := range []uint64{0, 1, 0x80, greatest >> 1, greatest - 1, greatest} {
			b, e := bits.Big(n, bytes)
			if e != api.OK || len(b) != bytes || digitsOf(b) != digits(n, 8*bytes) {
				t.Errorf("Big(%d, %d): %v, %v", n, bytes, b, e)
			}
			if m, e := bits.Number(b); m != n || e != api.OK {
				t.Errorf("Number(%v): %d, %v", b, m, e)
			}
		}
		if bytes == 8 {
			continue
		}
		for _, n := range []uint64{greatest + 1, greatest + 2, 1 << 63, math.MaxUint64} {
			if b, e := bits.Big(n, bytes); len(b) != 0 || e != api.ErrBitsValue {
				t.Errorf("Big(%d, %d): %v, %v", n, bytes, b, e)
			}
		}
	}
}

// B7: the highest byte is the first.
func TestBigOrder(t *testing.T) {
	for bytes := 1; bytes <= 8; bytes++ {
		all := []byte{1, 2, 3, 4, 5, 6, 7, 8}[:bytes]
		var n uint64
		for _, x := range all {
			n = n*256 + uint64(x)
		}
		if b, e := bits.Big(n, bytes); !slices.Equal(b, all) || e != api.OK {
			t.Errorf("Big(%d, %d): %v, %v", n, bytes, b, e)
		}
		if m, e := bits.Number(all); m != n || e != api.OK {
			t.Errorf("Number(%v): %d, %v", all, m, e)
		}
	}
}

// B7: Number of no bytes, of 9, and of more.
func TestNumberWidth(t *testing.T) {
	for _, b := range [][]byte{nil, {}, make([]byte, 9), {0, 0, 0, 0, 0, 0, 0, 0, 1}, make([]byte, 300)} {
		if n, e := bits.Number(b); n != 0 || e != api.ErrBitsWidth {
			t.Errorf("Number of %d bytes: %d, %v", len(b), n, e)
		}
	}
}

// P3: Big's answers are new, Number changes nothing.
func TestNumbersShareNothing(t *testing.T) {
	first, _ := bits.Big(258, 3)
	second, _ := bits.Big(258, 3)
	for i := range first[:cap(first)] {
		first[:cap(first)][i] = 255
	}
	if !slices.Equal(second, []byte{0, 1, 2}) {
		t.Errorf("two answers share memory: %v", second)
	}
	third, _ := bits.Big(258, 3)
	if !slices.Equal(third, []byte{0, 1, 2}) {
		t.Errorf("an answer shares memory with an earlier one: %v", third)
	}
	room := []byte{9, 8, 7, 6}
	if n, e := bits.Number(room[:2]); n != 9*256+8 || e != api.OK || !slices.Equal(room, []byte{9, 8, 7, 6}) {
		t.Errorf("Number: %d, %v, %v", n, e, room)
	}
}

// P1.1: what was put is got by the same widths, and the rest is filling.
func TestPutThenGet(t *testing.T) {
	type step struct {
		v uint32
		n int
	}
	c := chance(2)
	for count := range 80 {
		w := bits.NewWriter()
		var steps []step
		for range count {
			n := c.below(33)
			s := step{uint32(c.next() & (1<<n - 1)), n}
			put(t, w, s.v, s.n)
			steps = append(steps, s)
		}
		b := w.Bytes()
		if len(b) != (w.Len()+7)/8 {
			t.Fatalf("%d bits in %d bytes", w.Len(), len(b))
		}
		r := bits.NewReader(b)
		for i, s := range steps {
			if v, e := r.Get(s.n); v != s.v || e != api.OK {
				t.Fatalf("step %d: Get(%d): %d, %v, not %d", i, s.n, v, e, s.v)
			}
		}
		if e := r.Rest(); e != api.OK {
			t.Errorf("Rest: %v, %d left", e, r.Left())
		}
	}
}

// P1.2: Big of Number, by as many bytes, is the bytes.
func TestNumberThenBig(t *testing.T) {
	c := chance(3)
	for range 2000 {
		b := make([]byte, 1+c.below(8))
		for i := range b {
			b[i] = byte(c.next())
		}
		n, e := bits.Number(b)
		if e != api.OK {
			t.Fatalf("Number(%v): %v", b, e)
		}
		if again, e := bits.Big(n, len(b)); !slices.Equal(again, b) || e != api.OK {
			t.Fatalf("Big(%d, %d): %v, %v, not %v", n, len(b), again, e, b)
		}
	}
}

// P1.3: two numbers, one behind the other, are what one of both widths is.
func TestGetInTwo(t *testing.T) {
	all := []byte{202, 254, 186, 190, 1, 35, 69, 103}
	for at := range 9 {
		for a := range 33 {
			for b := range 33 - a {
				one, two := readerAt(t, all, at), readerAt(t, all, at)
				whole, e := one.Get(a + b)
				high, e1 := two.Get(a)
				low, e2 := two.Get(b)
				if e != api.OK || e1 != api.OK || e2 != api.OK {
					t.Fatal(e, e1, e2)
				}
				if uint64(whole) != uint64(high)<<b+uint64(low) || one.Left() != two.Left() {
					t.Fatalf("at %d: %d bits are %d, %d and %d bits are %d and %d", at, a+b, whole, a, b, high, low)
				}
			}
		}
	}
}

// P4: writers and readers know nothing of one another.
func TestThingsApart(t *testing.T) {
	w1, w2 := bits.NewWriter(), bits.NewWriter()
	put(t, w1, 5, 3)
	put(t, w2, 2, 5)
	put(t, w1, 1, 12)
	isWriter(t, w1, "101000000000001")
	isWriter(t, w2, "00010")
	b := w1.Bytes()
	r1, r2 := bits.NewReader(b), bits.NewReader(b)
	if v, e := r1.Get(3); v != 5 || e != api.OK {
		t.Error(v, e)
	}
	if r1.Left() != 13 || r2.Left() != 16 {
		t.Error(r1.Left(), r2.Left())
	}
	isReader(t, r2, "1010000000000010")
	isReader(t, r1, "0000000000010")
}

// P1, P2: calls in any order, wrong ones among them, leave the reader where the digits say.
func TestReaderMixed(t *testing.T) {
	c := chance(4)
	for range 300 {
		b := make([]byte, c.below(12))
		for i := range b {
			b[i] = byte(c.next() & c.next() & c.next())
		}
		left := digitsOf(b)
		r := bits.NewReader(b)
		for range 30 {
			n := c.below(40) - 3
			switch {
			case c.below(2) == 0:
				want, taken, errno := 0, 0, api.ErrBitsWidth
				if n >= 0 && n <= 32 {
					want, taken, errno = zerosOf(left, n)
				}
				if got, e := r.Zeros(n); got != want || e != errno {
					t.Fatalf("Zeros(%d) of %q: %d, %v, not %d, %v", n, left, got, e, want, errno)
				}
				left = left[taken:]
			case n < 0 || n > 32:
				if v, e := r.Get(n); v != 0 || e != api.ErrBitsWidth {
					t.Fatalf("Get(%d): %d, %v", n, v, e)
				}
			case n > len(left):
				if v, e := r.Get(n); v != 0 || e != api.ErrBitsEnd {
					t.Fatalf("Get(%d) of %q: %d, %v", n, left, v, e)
				}
			default:
				if v, e := r.Get(n); uint64(v) != number(t, left[:n]) || e != api.OK {
					t.Fatalf("Get(%d) of %q: %d, %v", n, left, v, e)
				}
				left = left[n:]
			}
			if r.Left() != len(left) {
				t.Fatalf("Left is %d, not %d", r.Left(), len(left))
			}
		}
	}
}

// The chapter's examples.
func TestExamples(t *testing.T) {
	w := bits.NewWriter()
	put(t, w, 5, 3)
	put(t, w, 1, 1)
	put(t, w, 0, 6)
	isWriter(t, w, "1011000000")
	if b := w.Bytes(); !slices.Equal(b, []byte{176, 0}) {
		t.Error(b)
	}
	if e := w.Put(8, 3); e != api.ErrBitsValue {
		t.Error(e)
	}
	if e := w.Put(0, 33); e != api.ErrBitsWidth || w.Len() != 10 {
		t.Error(e, w.Len())
	}
	r := bits.NewReader([]byte{176, 0})
	if v, e := r.Get(3); v != 5 || e != api.OK {
		t.Error(v, e)
	}
	if v, e := r.Get(1); v != 1 || e != api.OK || r.Left() != 12 || r.Rest() != api.ErrBitsRest {
		t.Error(v, e, r.Left())
	}
	if n, e := r.Zeros(4); n != 4 || e != api.OK {
		t.Error(n, e)
	}
	if v, e := r.Get(9); v != 0 || e != api.ErrBitsEnd {
		t.Error(v, e)
	}
	if v, e := r.Get(8); v != 0 || e != api.OK || r.Left() != 0 || r.Rest() != api.OK {
		t.Error(v, e, r.Left())
	}
	r = bits.NewReader([]byte{8})
	for _, x := range []struct {
		most, noughts int
		e             api.Errno
		left          int
	}{{32, 4, api.OK, 3}, {4, 0, api.ErrBitsEnd, 3}, {2, 2, api.OK, 1}} {
		if n, e := r.Zeros(x.most); n != x.noughts || e != x.e || r.Left() != x.left {
			t.Errorf("Zeros(%d): %d, %v, %d left", x.most, n, e, r.Left())
		}
	}
	if b, e := bits.Big(258, 2); !slices.Equal(b, []byte{1, 2}) || e != api.OK {
		t.Error(b, e)
	}
	if b, e := bits.Big(258, 1); len(b) != 0 || e != api.ErrBitsValue {
		t.Error(b, e)
	}
	if n, e := bits.Number([]byte{1, 2}); n != 258 || e != api.OK {
		t.Error(n, e)
	}
	if n, e := bits.Number(nil); n != 0 || e != api.ErrBitsWidth {
		t.Error(n, e)
	}
}
