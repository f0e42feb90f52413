package picture_test

import (
	"bytes"
	"slices"
	"testing"

	"dailies/api"
	"dailies/picture"
)

// lineHead is a head of so many slices in a row, whose Length is what these lengths say.
func lineHead(lengths []int, p int) api.Head {
	h := api.Head{Shape: api.Shape{Width: 16 * len(lengths), Height: 16, Depth: 10}, SliceW: 16, SliceH: 16, Slices: len(lengths), Parity: p}
	h.Length = 32 + 8*len(lengths) + 4*p + 4 + p*slices.Max(lengths)
	for _, n := range lengths {
		h.Length += n
	}
	return h
}

// sumsOf are so many, all unlike.
func sumsOf(n int) []uint32 {
	list := make([]uint32, n)
	for i := range list {
		list[i] = uint32(i+1) * 0x9e3779b1
	}
	return list
}

// entriesOf are a table's by the chapter's words.
func entriesOf(lengths []int, p int, sums []uint32) []api.Entry {
	var list []api.Entry
	at := 32 + 8*len(lengths) + 4*p + 4
	for k, n := range append(slices.Clone(lengths), slices.Repeat([]int{slices.Max(lengths)}, p)...) {
		list = append(list, api.Entry{At: at, Length: n, Sum: sums[k]})
		at += n
	}
	return list
}

func refusesTable(t *testing.T, h api.Head, b []byte, want api.Errno) {
	t.Helper()
	if list, e := picture.Table(h, b); len(list) != 0 || e != want {
		t.Fatalf("%v, %d bytes: %v %v; want %v", h, len(b), list, e, want)
	}
}

// tables are lengths of payloads with a number of parity rows.
func tables() []struct {
	lengths []int
	parity  int
} {
	c := chance(77)
	list := []struct {
		lengths []int
		parity  int
	}{
		{[]int{0}, 0}, {[]int{0}, 1}, {[]int{0}, 16}, {[]int{1}, 0}, {[]int{1}, 16}, {[]int{0, 0, 0}, 2}, {[]int{5, 0, 7}, 0}, {[]int{5, 0, 7}, 3}, {[]int{7, 0, 5, 0}, 1},
		{[]int{16777215}, 0}, {[]int{0, 16777215}, 1}, {[]int{16777215, 0}, 5},
		// As long as a record may be: 32, 72 in the table, and what is left.
		{[]int{16777215, 16777215, 16777215, 16777215, 16777215, 16777215, 16777215, 16777122}, 0},
		{[]int{16777206}, 7},
		{make([]int, 200), 16}, {make([]int, 201), 0}, {make([]int, 256), 0},
	}
	for range 40 {
		lengths := make([]int, 1+c.below(12))
		for k := range lengths {
			lengths[k] = c.below(5000)
		}
		list = append(list, struct {
			lengths []int
			parity  int
		}{lengths, c.below(17)})
	}
	return list
}

func TestTableReads(t *testing.T) {
	for _, x := range tables() {
		h, sums := lineHead(x.lengths, x.parity), sumsOf(len(x.lengths)+x.parity)
		b, want := tableOf(x.lengths, sums), entriesOf(x.lengths, x.parity, sums)
		if !headIs(h) || len(b) != picture.TableSize(h) {
			t.Fatal(h, len(b))
		}
		for _, behind := range [][]byte{nil, {0}, {9, 9, 9, 9, 9, 9, 9, 9, 9}, make([]byte, 3000)} {
			list, e := picture.Table(h, append(bytes.Clone(b), behind...))
			if !slices.Equal(list, want) || e != api.OK {
				t.Fatal(h, list, want, e)
			}
		}
	}
}

// P12.1, P12.5: entries fill what is behind the table, one behind the other.
func TestTableEntriesFillTheRecord(t *testing.T) {
	for _, x := range tables() {
		h := lineHead(x.lengths, x.parity)
		list, e := picture.Table(h, tableOf(x.lengths, sumsOf(len(x.lengths)+x.parity)))
		at := 32 + picture.TableSize(h)
		for _, entry := range list {
			if entry.At != at || entry.Length < 0 {
				t.Fatal(h, list)
			}
			at += entry.Length
		}
		if e != api.OK || len(list) != h.Slices+h.Parity || at != h.Length {
			t.Fatal(h, e, at)
		}
	}
}

func TestTableRefusesInOrder(t *testing.T) {
	lengths := []int{5, 0, 7, 9, 4, 1}
	sums := sumsOf(7)
	right := tableOf(lengths, sums)
	for _, h := range wrongHeads() {
		for _, b := range [][]byte{nil, {}, right, right[:3], make([]byte, 100)} {
			refusesTable(t, h, b, api.ErrPictureHead)
		}
	}
}

// One byte short, or more; none at all.
func TestTableShort(t *testing.T) {
	for _, x := range tables() {
		b := tableOf(x.lengths, sumsOf(len(x.lengths)+x.parity))
		h := lineHead(x.lengths, x.parity)
		for _, n := range []int{0, 1, 3, 4, len(b) - 9, len(b) - 8, len(b) - 4, len(b) - 1} {
			refusesTable(t, h, b[:max(n, 0)], api.ErrPictureTable)
		}
		refusesTable(t, h, nil, api.ErrPictureTable)
	}
}

// Each bit that is another one is told by the sum.
func TestTableSum(t *testing.T) {
	for _, x := range tables() {
		b, h := tableOf(x.lengths, sumsOf(len(x.lengths)+x.parity)), lineHead(x.lengths, x.parity)
		for bit := range 8 * min(len(b), 150) {
			spoilt := bytes.Clone(b)
			spoilt[len(b)-1-bit/8] ^= 1 << (bit % 8)
			refusesTable(t, h, spoilt, api.ErrPictureTable)
		}
	}
}

// The head's Length is just what the entries say: one above and one below are refused.
func TestTableLength(t *testing.T) {
	for _, x := range tables() {
		b := tableOf(x.lengths, sumsOf(len(x.lengths)+x.parity))
		for _, far := range []int{-16777216, -256, -1, 1, 256, 16777216} {
			h := lineHead(x.lengths, x.parity)
			h.Length += far
			want := api.ErrPictureTable
			if !headIs(h) {
				want = api.ErrPictureHead
			}
			refusesTable(t, h, b, want)
		}
	}
}

// A payload's length is at most 16777215, also where Length has room for it.
func TestTableLongPayloads(t *testing.T) {
	for _, lengths := range [][]int{{16777216}, {0, 16777216}, {16777216, 0}, {16777217, 3}, {100000000}} {
		h := lineHead(lengths, 0)
		if !headIs(h) {
			t.Fatal(h)
		}
		refusesTable(t, h, tableOf(lengths, sumsOf(len(lengths))), api.ErrPictureTable)
	}
	// Lengths whose total goes round in 32 bits.
	for _, lengths := range [][]int{{1<<31 + 50, 1<<31 + 50}, {1<<32 - 1, 101}, {1<<32 - 100, 200}} {
		h := lineHead([]int{50, 50}, 0)
		refusesTable(t, h, tableOf(lengths, sumsOf(2)), api.ErrPictureTable)
	}
}

// P12.5: tables of any bytes whose sum is right: by the chapter's words.
func TestP12_5AnyTables(t *testing.T) {
	c := chance(125)
	taken := 0
	for range 30000 {
		lengths := make([]int, 1+c.below(4))
		for k := range lengths {
			lengths[k] = c.below(4)
		}
		p := c.below(3)
		h := lineHead(lengths, p)
		h.Length += c.below(3) - 1
		other := slices.Clone(lengths)
		for k := range other {
			if c.below(3) == 0 {
				other[k] = c.below(5)
			}
		}
		sums := sumsOf(len(lengths) + p)
		total, greatest := 36+8*len(lengths)+4*p, 0
		for _, n := range other {
			total, greatest = total+n, max(greatest, n)
		}
		list, e := picture.Table(h, tableOf(other, sums))
		switch {
		case !headIs(h):
			if len(list) != 0 || e != api.ErrPictureHead {
				t.Fatal(h, list, e)
			}
		case total+p*greatest != h.Length:
			if len(list) != 0 || e != api.ErrPictureTable {
				t.Fatal(h, list, e)
			}
		default:
			taken++
			if !slices.Equal(list, entriesOf(other, p, sums)) || e != api.OK {
				t.Fatal(h, list, e)
			}
		}
	}
	if taken < 3000 {
		t.Error("hardly any table is taken", taken)
	}
}
