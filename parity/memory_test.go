package parity_test

import (
	"bytes"
	"slices"
	"sync"
	"testing"

	"dailies/api"
	"dailies/parity"
)

// spare is how much room stands behind each list that is handed in.
const spare = 9

// roomy is a list of the same elements with spare room behind them, which holds marks.
func roomy[T any](list []T, mark T) []T {
	out := append(slices.Clone(list), slices.Repeat([]T{mark}, spare)...)
	return out[:len(list)]
}

// roomyRows are rows with spare room, in a list that has some, too.
func roomyRows(rows [][]byte) [][]byte {
	out := make([][]byte, len(rows))
	for i, row := range rows {
		out[i] = roomy(row, 0xa5)
	}
	return roomy(out, []byte{1, 2, 3})
}

// asItWas tells whether a list and its spare room are still as roomy made them.
func asItWas[T comparable](list, was []T, mark T) bool {
	return slices.Equal(list[:len(list)+spare], append(slices.Clone(was), slices.Repeat([]T{mark}, spare)...))
}

// rowsAsTheyWere tells the same of rows.
func rowsAsTheyWere(rows, was [][]byte) bool {
	for i, row := range rows {
		if !asItWas(row, was[i], 0xa5) {
			return false
		}
	}
	for _, row := range rows[len(rows) : len(rows)+spare] {
		if !bytes.Equal(row, []byte{1, 2, 3}) {
			return false
		}
	}
	return len(rows) == len(was)
}

// overwritten writes into each row, its spare room, and behind it by append, and tells whether another row is touched by it.
func overwritten(t *testing.T, rows [][]byte) {
	t.Helper()
	for i := range rows {
		before := make([][]byte, len(rows))
		for k := range rows {
			before[k] = bytes.Clone(rows[k])
		}
		whole := rows[i][:cap(rows[i])]
		for x := range whole {
			whole[x] ^= 0xff
		}
		for x := range before[i] {
			before[i][x] ^= 0xff
		}
		_ = append(rows[i], 0x5a, 0x5b)
		if !same(rows, before) {
			t.Fatalf("what is written into the row %d and behind it touches another one", i)
		}
	}
}

func TestP5_3MakeSharesNothing(t *testing.T) {
	c := chance(40)
	for range 60 {
		was := c.rows(c.lengths(c.below(9), 12)...)
		rows := roomyRows(was)
		p := c.below(17)
		more := made(t, rows, p)
		if !rowsAsTheyWere(rows, was) {
			t.Fatal("Make wrote into what was handed in")
		}
		overwritten(t, more)
		if !rowsAsTheyWere(rows, was) {
			t.Fatal("what Make tells shares memory with what was handed in")
		}
		if again := made(t, rows, p); !same(again, moreOf(was, p)) {
			t.Fatal("what Make tells shares memory with what it told")
		}
	}
}

func TestP5_3RestoreSharesNothing(t *testing.T) {
	c := chance(41)
	for range 300 {
		n, p := c.below(8), c.below(6)
		whole := c.rows(c.lengths(n, 12)...)
		wholeMore := made(t, whole, p)
		wasLost := c.some(min(c.below(p+1), n+p), n+p)
		was, wasMore := c.without(whole, 0, wasLost), c.without(wholeMore, n, wasLost)
		rows, more := roomyRows(was), roomyRows(wasMore)
		sizes, lost := roomy(sizesOf(whole), -7), roomy(wasLost, -8)
		untouched := func(what string) {
			t.Helper()
			if !rowsAsTheyWere(rows, was) || !rowsAsTheyWere(more, wasMore) || !asItWas(sizes, sizesOf(whole), -7) || !asItWas(lost, wasLost, -8) {
				t.Fatal(what)
			}
		}
		got, e := parity.Restore(rows, sizes, more, lost)
		wantRows(t, "Restore", got, e, slices.Concat(whole, wholeMore))
		untouched("Restore wrote into what was handed in")
		overwritten(t, got)
		untouched("what Restore tells shares memory with what was handed in")
		got, e = parity.Restore(rows, sizes, more, lost)
		wantRows(t, "Restore again", got, e, slices.Concat(whole, wholeMore))
	}
}

func TestP5_3WithAnErrorNothingIsWrittenInto(t *testing.T) {
	c := chance(42)
	was := c.rows(3, 1, 3)
	wasMore := made(t, was, 2)
	for _, wasLost := range [][]int{{0, 1, 2}, {0, 3, 4}, {0, 5}, {-1}} {
		rows, more := roomyRows(was), roomyRows(wasMore)
		sizes, lost := roomy([]int{3, 1, 3}, -7), roomy(wasLost, -8)
		got, e := parity.Restore(rows, sizes, more, lost)
		if e == api.OK || len(got) != 0 {
			t.Fatalf("lost %v: %v, %v", wasLost, got, e)
		}
		if !rowsAsTheyWere(rows, was) || !rowsAsTheyWere(more, wasMore) || !asItWas(sizes, []int{3, 1, 3}, -7) || !asItWas(lost, wasLost, -8) {
			t.Fatalf("lost %v: Restore wrote into what was handed in", wasLost)
		}
	}
}

// TestP5_3OneRowAtManyPlaces hands in one list of bytes as several rows.
func TestP5_3OneRowAtManyPlaces(t *testing.T) {
	row := []byte{1, 2, 3, 4}
	rows := [][]byte{row, row, row[:2], row[1:]}
	more := made(t, rows, 4)
	wantRows(t, "Make", more, api.OK, moreOf(rows, 4))
	got, e := parity.Restore(rows, []int{4, 4, 2, 3}, more, []int{1, 3, 4})
	wantRows(t, "Restore", got, e, slices.Concat(rows, more))
	overwritten(t, got)
	got, e = parity.Restore([][]byte{row, row}, []int{4, 4}, [][]byte{row, row}, nil)
	wantRows(t, "Restore", got, e, [][]byte{row, row, row, row})
	overwritten(t, got)
	if !bytes.Equal(row, []byte{1, 2, 3, 4}) {
		t.Fatal("the row is another one:", row)
	}
}

func TestP4AnswersHangOnArgumentsAlone(t *testing.T) {
	c := chance(43)
	rows := c.rows(c.lengths(20, 300)...)
	more := made(t, rows, 5)
	lost := []int{3, 21, 7, 24, 11}
	want := slices.Concat(rows, more)
	var hands sync.WaitGroup
	agree := make([]bool, 8)
	for hand := range agree {
		hands.Go(func() {
			again, e := parity.Make(rows, 5)
			all, f := parity.Restore(rows, sizesOf(rows), more, lost)
			agree[hand] = e == api.OK && f == api.OK && same(again, more) && same(all, want)
		})
	}
	hands.Wait()
	if slices.Contains(agree, false) {
		t.Error("many hands, other rows:", agree)
	}
}
