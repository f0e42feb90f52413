package crc_test

import (
	"bytes"
	"hash/crc32"
	"math"
	"math/big"
	"math/bits"
	"slices"
	"testing"

	"dailies/api"
	"dailies/crc"
)

// edges are sums, and what sums may be made of, at which slips show.
var edges = []uint32{0, 1, 2, 7, 0x80, 0xff, 0x100, 0xffff, 0x04c11db7, 0x7fffffff, 0x80000000, 0xfffffffe, math.MaxUint32}

// chance is a row of numbers that look like chance and are the same each time.
type chance uint64

func (c *chance) word() uint32 {
	*c = *c*6364136223846793005 + 1442695040888963407
	return uint32(*c >> 32)
}

func (c *chance) bytes(n int) []byte {
	b := make([]byte, n)
	for i := range b {
		b[i] = byte(c.word() >> 24)
	}
	return b
}

// sums are the edges and some numbers by chance.
func (c *chance) sums(n int) []uint32 {
	all := slices.Clone(edges)
	for range n {
		all = append(all, c.word())
	}
	return all
}

// texts are bytes of every length up to n: noughts, all bits set, and some by chance.
func (c *chance) texts(n int) [][]byte {
	all := [][]byte{nil, {}}
	for length := 1; length <= n; length++ {
		all = append(all, make([]byte, length), bytes.Repeat([]byte{255}, length))
		for range 4 {
			all = append(all, c.bytes(length))
		}
	}
	return all
}

// behind is one text with another one behind it, in memory of its own.
func behind(a, b []byte) []byte { return slices.Concat(a, b) }

// four is a number as four bytes, the highest first.
func four(v uint32) []byte { return []byte{byte(v >> 24), byte(v >> 16), byte(v >> 8), byte(v)} }

// together is two texts of one length put together bit by bit.
func together(a, b []byte) []byte {
	c := slices.Clone(a)
	for i := range c {
		c[i] ^= b[i]
	}
	return c
}

// restOf divides a polynomial, coefficient by coefficient, by x^32 and the one of the chapter.
func restOf(p *big.Int) uint32 {
	rest, by := new(big.Int).Set(p), big.NewInt(0x104c11db7)
	for rest.BitLen() > 32 {
		rest.Xor(rest, new(big.Int).Lsh(by, uint(rest.BitLen()-33)))
	}
	return uint32(rest.Uint64())
}

// remainderOf is the chapter's remainder, word for word.
func remainderOf(b []byte) uint32 {
	p := new(big.Int).SetBytes(b)
	return restOf(p.Lsh(p, 32))
}

// sumOf is the chapter's sum, word for word.
func sumOf(b []byte) uint32 {
	state := uint32(math.MaxUint32)
	for _, v := range b {
		state ^= uint32(v) << 24
		for range 8 {
			fell := state >> 31
			state <<= 1
			if fell == 1 {
				state ^= 0x04c11db7
			}
		}
	}
	return ^state
}

// joined is what Join should answer, by a division; of an n that a polynomial has room for.
func joined(a, b uint32, n int) uint32 {
	p := new(big.Int).SetUint64(uint64(a))
	return b ^ restOf(p.Lsh(p, uint(8*n)))
}

// mustJoin is Join where it may not refuse.
func mustJoin(t *testing.T, a, b uint32, n int) uint32 {
	t.Helper()
	s, e := crc.Join(a, b, n)
	if e != api.OK {
		t.Fatalf("Join(%08x, %08x, %d): %v", a, b, n, e)
	}
	return s
}

func TestExamples(t *testing.T) {
	for _, x := range []struct {
		text      string
		remainder uint32
	}{{"", 0}, {"\x01", 0x04c11db7}, {"\x01\x00", 0xd219c1dc}, {"123456789", 0x89a1897f}} {
		if got := crc.Remainder([]byte(x.text)); got != x.remainder {
			t.Errorf("Remainder(%q): %08x, not %08x", x.text, got, x.remainder)
		}
	}
	for _, x := range []struct {
		text string
		sum  uint32
	}{{"", 0}, {"\x00", 0xb1f7404b}, {"\x00\x00\x00\x00", 0x38fb2284}, {"1234", 0x596a3b55}, {"56789", 0xe366ccbd}, {"123456789", 0xfc891918}} {
		if got := crc.Sum([]byte(x.text)); got != x.sum {
			t.Errorf("Sum(%q): %08x, not %08x", x.text, got, x.sum)
		}
	}
	if got := crc.More(0x596a3b55, []byte("56789")); got != 0xfc891918 {
		t.Errorf("More: %08x", got)
	}
	if got := mustJoin(t, 0x596a3b55, 0xe366ccbd, 5); got != 0xfc891918 {
		t.Errorf("Join: %08x", got)
	}
	if got := mustJoin(t, 7, 9, 0); got != 14 {
		t.Errorf("Join(7, 9, 0): %d", got)
	}
	if got, e := crc.Join(7, 9, -1); got != 0 || e != api.ErrCrcLength {
		t.Errorf("Join(7, 9, -1): %d, %v", got, e)
	}
}

func TestTable(t *testing.T) {
	table := crc.Table()
	for _, x := range []struct {
		place int
		want  uint32
	}{{0, 0}, {1, 0x04c11db7}, {2, 0x09823b6e}, {255, 0xb1f740b4}} {
		if table[x.place] != x.want {
			t.Errorf("place %d: %08x, not %08x", x.place, table[x.place], x.want)
		}
	}
	for place := range 256 {
		if want := remainderOf([]byte{byte(place)}); table[place] != want || crc.Remainder([]byte{byte(place)}) != want {
			t.Errorf("place %d: %08x, not %08x", place, table[place], want)
		}
	}
}

// A caller may write into the table; no other table and no sum may be another one by that (P3).
func TestTableIsTheCallers(t *testing.T) {
	mine := crc.Table()
	for place := range mine {
		mine[place] = ^mine[place]
	}
	if again := crc.Table(); again[1] != 0x04c11db7 || again[255] != 0xb1f740b4 || again[0] != 0 {
		t.Error("a table that was written into shows in another one")
	}
	if crc.Sum([]byte("123456789")) != 0xfc891918 {
		t.Error("a table that was written into shows in a sum")
	}
}

func TestRemainderAndSumByTheWords(t *testing.T) {
	c := chance(3)
	for _, b := range c.texts(40) {
		if got, want := crc.Remainder(b), remainderOf(b); got != want {
			t.Fatalf("Remainder(%x): %08x, not %08x", b, got, want)
		}
		if got, want := crc.Sum(b), sumOf(b); got != want {
			t.Fatalf("Sum(%x): %08x, not %08x", b, got, want)
		}
	}
}

// All texts of one and of two bytes.
func TestShortTexts(t *testing.T) {
	for v := range 1 << 16 {
		for _, b := range [][]byte{{byte(v)}, {byte(v >> 8), byte(v)}} {
			if crc.Remainder(b) != remainderOf(b) || crc.Sum(b) != sumOf(b) {
				t.Fatalf("of %x: %08x, %08x", b, crc.Remainder(b), crc.Sum(b))
			}
		}
	}
}

// The library's sum is this one with all bits of bytes and of sums the other way round.
func TestLongTexts(t *testing.T) {
	c := chance(4)
	for _, n := range []int{255, 256, 257, 4095, 4096, 65536, 1<<20 + 3} {
		b := c.bytes(n)
		other := make([]byte, n)
		for i, v := range b {
			other[i] = bits.Reverse8(v)
		}
		if got, want := crc.Sum(b), bits.Reverse32(crc32.ChecksumIEEE(other)); got != want {
			t.Errorf("Sum of %d bytes: %08x, not %08x", n, got, want)
		}
	}
}

// The chapter's remark: of four bytes or more the sum is a remainder.
func TestSumIsARemainder(t *testing.T) {
	c := chance(5)
	for _, b := range c.texts(40) {
		if len(b) < 4 {
			continue
		}
		turned := slices.Clone(b)
		for i := range 4 {
			turned[i] = ^turned[i]
		}
		if got, want := crc.Sum(b), ^crc.Remainder(turned); got != want {
			t.Fatalf("Sum(%x): %08x, not %08x", b, got, want)
		}
	}
}

func TestOfNoBytes(t *testing.T) {
	c := chance(6)
	for _, none := range [][]byte{nil, {}, c.bytes(9)[:0]} {
		if crc.Remainder(none) != 0 || crc.Sum(none) != 0 {
			t.Errorf("of no bytes: %08x, %08x", crc.Remainder(none), crc.Sum(none))
		}
		for _, sum := range c.sums(100) {
			if got := crc.More(sum, none); got != sum {
				t.Errorf("More(%08x) of no bytes: %08x", sum, got)
			}
		}
	}
}

// P3.1, at every place where a text may be parted.
func TestPartsOfTexts(t *testing.T) {
	c := chance(7)
	for _, b := range c.texts(24) {
		whole := sumOf(b)
		for cut := range len(b) + 1 {
			first, second := crc.Sum(b[:cut]), crc.Sum(b[cut:])
			if got := crc.More(first, b[cut:]); got != whole {
				t.Fatalf("More of %x, %x: %08x, not %08x", b[:cut], b[cut:], got, whole)
			}
			if got := mustJoin(t, first, second, len(b)-cut); got != whole {
				t.Fatalf("Join of %x, %x: %08x, not %08x", b[:cut], b[cut:], got, whole)
			}
		}
	}
}

func TestManyParts(t *testing.T) {
	c := chance(8)
	var whole []byte
	more, join := uint32(0), uint32(0)
	for n := range 200 {
		part := c.bytes(n * n % 61 * 17)
		whole = append(whole, part...)
		more, join = crc.More(more, part), mustJoin(t, join, crc.Sum(part), len(part))
		if want := crc.Sum(whole); more != want || join != want {
			t.Fatalf("after %d parts: More %08x, Join %08x, not %08x", n+1, more, join, want)
		}
	}
}

// More goes on from whatever number, since each is the sum of some four bytes.
func TestMoreOfAnySum(t *testing.T) {
	c := chance(9)
	for _, sum := range c.sums(100) {
		first := fourFor(nil, sum)
		for _, b := range c.texts(9) {
			if got, want := crc.More(sum, b), sumOf(behind(first, b)); got != want {
				t.Fatalf("More(%08x, %x): %08x, not %08x", sum, b, got, want)
			}
		}
	}
}

func TestJoinByTheWords(t *testing.T) {
	c := chance(10)
	all := c.sums(20)
	for n := range 70 {
		for i, a := range all {
			b := all[(i*7+n)%len(all)]
			if got, want := mustJoin(t, a, b, n), joined(a, b, n); got != want {
				t.Fatalf("Join(%08x, %08x, %d): %08x, not %08x", a, b, n, got, want)
			}
		}
	}
	for _, n := range []int{127, 128, 255, 256, 257, 1000, 4095} {
		a, b := c.word(), c.word()
		if got, want := mustJoin(t, a, b, n), joined(a, b, n); got != want {
			t.Fatalf("Join(%08x, %08x, %d): %08x, not %08x", a, b, n, got, want)
		}
	}
}

func TestJoinOfLittle(t *testing.T) {
	c := chance(11)
	for _, a := range c.sums(20) {
		for _, b := range edges {
			if got := mustJoin(t, a, b, 0); got != a^b {
				t.Errorf("Join(%08x, %08x, 0): %08x", a, b, got)
			}
			if got, want := mustJoin(t, a, b, 1), b^crc.More(a, []byte{0})^crc.Sum([]byte{0}); got != want {
				t.Errorf("Join(%08x, %08x, 1): %08x, not %08x", a, b, got, want)
			}
		}
	}
	for _, n := range []int{0, 1, 2, 4, 1 << 20, math.MaxInt32, math.MaxInt} {
		for _, b := range edges {
			if got := mustJoin(t, 0, b, n); got != b {
				t.Errorf("Join(0, %08x, %d): %08x", b, n, got)
			}
		}
	}
}

// Lengths that no text here has: on by m and by n is on by m + n.
func TestJoinOfMuch(t *testing.T) {
	c := chance(12)
	for i := range 2000 {
		m, n := int(c.word())<<30>>(i%64), int(c.word())<<30>>(i*5%64)
		m, n = m&(math.MaxInt/2), n&(math.MaxInt/2)
		a, b := c.word(), c.word()
		if got, want := mustJoin(t, mustJoin(t, a, 0, m), b, n), mustJoin(t, a, b, m+n); got != want {
			t.Fatalf("Join(%08x) by %d, then %d: %08x, by both %08x", a, m, n, got, want)
		}
	}
}

// x^(2^32 - 1) is 1 by this polynomial, and no lower power but x^0. The greatest int is 2^31 - 1 above a multiple of 2^32 - 1, whether it has 31 or 63 bits, and 8 (2^31 - 1) is 4 below one: a byte more, and all is 4 bits on.
func TestJoinOfTheGreatestInt(t *testing.T) {
	c := chance(13)
	for _, a := range c.sums(100) {
		b := c.word()
		far := mustJoin(t, a, 0, math.MaxInt)
		p := new(big.Int).SetUint64(uint64(a))
		if got, want := mustJoin(t, far, b, 1), b^restOf(p.Lsh(p, 4)); got != want {
			t.Errorf("Join(%08x) by the greatest int and 1: %08x, not %08x", a, got, want)
		}
		if got := mustJoin(t, a, b, math.MaxInt); got != far^b {
			t.Errorf("Join(%08x, %08x) by the greatest int: %08x, not %08x", a, b, got, far^b)
		}
		if got := mustJoin(t, a, b, math.MaxInt32); got != far^b {
			t.Errorf("Join(%08x, %08x) by 2^31 - 1: %08x, not %08x", a, b, got, far^b)
		}
	}
}

func TestJoinBelowNought(t *testing.T) {
	for _, n := range []int{-1, -2, -8, -256, math.MinInt32, math.MinInt + 1, math.MinInt} {
		for _, a := range edges {
			for _, b := range edges {
				if got, e := crc.Join(a, b, n); got != 0 || e != api.ErrCrcLength {
					t.Errorf("Join(%08x, %08x, %d): %08x, %v", a, b, n, got, e)
				}
			}
		}
	}
}

// turnRun turns bits of a text: those of a run, its highest bit standing at a place among the text's bits.
func turnRun(b []byte, run uint32, wide, at int) []byte {
	turned := slices.Clone(b)
	for i := range wide {
		if run>>(wide-1-i)&1 == 1 {
			turned[(at+i)/8] ^= 128 >> ((at + i) % 8)
		}
	}
	return turned
}

// P3.2, at every place of a text of twelve bytes, for runs of every width.
func TestRunsAreTold(t *testing.T) {
	c := chance(14)
	for wide := 1; wide <= 32; wide++ {
		ends := uint32(1)<<(wide-1) | 1
		for at := 0; at+wide <= 96; at++ {
			b := c.bytes(12)
			sum := crc.Sum(b)
			for _, run := range []uint32{ends, math.MaxUint32 >> (32 - wide), ends | c.word()>>(32-wide), ends | 0x04c11db7&(math.MaxUint32>>(32-wide))} {
				if other := turnRun(b, run, wide, at); crc.Sum(other) == sum {
					t.Fatalf("%x and %x have one sum, %08x", b, other, sum)
				}
			}
		}
	}
}

// The shortest texts, all of them; and every change of a byte in a longer one.
func TestBytesAreTold(t *testing.T) {
	seen := map[uint32][]byte{}
	for v := range 1 << 16 {
		b := []byte{byte(v >> 8), byte(v)}
		if other, ok := seen[crc.Sum(b)]; ok {
			t.Fatalf("%x and %x have one sum", b, other)
		}
		seen[crc.Sum(b)] = b
	}
	c := chance(15)
	b := c.bytes(50)
	for at := range b {
		for v := 1; v < 256; v++ {
			other := slices.Clone(b)
			other[at] ^= byte(v)
			if crc.Sum(other) == crc.Sum(b) {
				t.Fatalf("%x and %x have one sum", b, other)
			}
		}
	}
}

func TestFourBytesSideBySideAreTold(t *testing.T) {
	c := chance(16)
	b := c.bytes(300)
	for range 20000 {
		other := slices.Clone(b)
		at := int(c.word() % 297)
		copy(other[at:], c.bytes(4))
		if same := bytes.Equal(b, other); same != (crc.Sum(b) == crc.Sum(other)) {
			t.Fatalf("at %d: %x instead of %x is not told", at, other[at:at+4], b[at:at+4])
		}
	}
}

// Why runs have at most 32 bits: one of 33, the polynomial's own, is told by no sum.
func TestOneBitMoreIsNotAlwaysTold(t *testing.T) {
	c := chance(17)
	for at := range 64 {
		b := c.bytes(12)
		other := turnRun(turnRun(b, 1, 1, at), 0x04c11db7, 32, at+1)
		if crc.Sum(other) != crc.Sum(b) {
			t.Errorf("at bit %d: %08x, %08x", at, crc.Sum(other), crc.Sum(b))
		}
	}
}

// P3.3, the first half.
func TestOwnRemainderBehind(t *testing.T) {
	c := chance(18)
	for _, b := range c.texts(40) {
		if got := crc.Remainder(behind(b, four(crc.Remainder(b)))); got != 0 {
			t.Fatalf("%x with its remainder: %08x", b, got)
		}
		if got := crc.Remainder(behind(b, four(crc.Remainder(b)^1))); got == 0 {
			t.Fatalf("%x with another number has the remainder 0", b)
		}
	}
}

// P3.3, the second half.
func TestRemaindersAddUp(t *testing.T) {
	c := chance(19)
	for n := range 60 {
		for range 10 {
			a, b := c.bytes(n), c.bytes(n)
			if got, want := crc.Remainder(together(a, b)), crc.Remainder(a)^crc.Remainder(b); got != want {
				t.Fatalf("of %x and %x together: %08x, not %08x", a, b, got, want)
			}
		}
	}
}

// fourFor finds the four bytes that make a text's sum the one that is asked for: it goes back from the state that is to come, bit by bit.
func fourFor(b []byte, want uint32) []byte {
	state := ^want
	for range 32 {
		if state&1 == 1 {
			state = (state^0x04c11db7)>>1 | 1<<31
		} else {
			state >>= 1
		}
	}
	return four(state ^ ^sumOf(b))
}

// P3.4.
func TestAnySumCanBeHad(t *testing.T) {
	c := chance(20)
	for _, b := range c.texts(20) {
		for _, want := range c.sums(10) {
			last := fourFor(b, want)
			if got := crc.Sum(behind(b, last)); got != want {
				t.Fatalf("%x with %x behind: %08x, not %08x", b, last, got, want)
			}
			if got := crc.More(crc.Sum(b), last); got != want {
				t.Fatalf("more of %x, %x: %08x, not %08x", b, last, got, want)
			}
		}
	}
}

// P3: neither a list that is handed in nor what stands behind it is written into.
func TestListsStayAsTheyWere(t *testing.T) {
	c := chance(21)
	for n := range 40 {
		b := c.bytes(n + 8)
		was := slices.Clone(b)
		crc.Remainder(b[4 : 4+n])
		crc.Sum(b[4 : 4+n])
		crc.More(c.word(), b[4:4+n])
		if !bytes.Equal(b, was) {
			t.Fatalf("%x was %x", b, was)
		}
	}
}

// P4: no call hangs on those ahead of it.
func TestCallsStandAlone(t *testing.T) {
	c := chance(22)
	b := c.bytes(33)
	sum, rest, far := crc.Sum(b), crc.Remainder(b), mustJoin(t, 5, 6, math.MaxInt)
	for _, other := range c.texts(12) {
		crc.Remainder(other)
		crc.More(crc.Sum(other), other)
		crc.Join(c.word(), c.word(), -len(other))
		crc.Join(c.word(), c.word(), len(other))
		if crc.Sum(b) != sum || crc.Remainder(b) != rest || mustJoin(t, 5, 6, math.MaxInt) != far {
			t.Fatalf("after calls with %x the answers are other ones", other)
		}
	}
}
