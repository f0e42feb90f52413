package medium_test

import (
	"math"
	"slices"
	"testing"

	"dailies/api"
	"dailies/medium"
)

// Each span of media of few bytes that may be a piece, of those that live and of dead ones, and those that may not.
func TestPieceEachSpan(t *testing.T) {
	for size := range 7 {
		for _, made := range []func(*testing.T, string) *pair{loaded, died} {
			p := made(t, letters(size))
			for at := -3; at < size+4; at++ {
				for n := -3; n < size+4; n++ {
					if x := p.piece(at, n); (x != nil) != (at >= 0 && n >= 0 && at+n <= size) || x != nil && x.src.Size() != n {
						t.Fatal(size, at, n, x)
					}
				}
			}
			for _, x := range odd() {
				for _, y := range append(odd(), 0, 1, size) {
					if p.piece(x, y) != nil || p.piece(y, x) != nil {
						t.Fatal(x, y)
					}
				}
			}
			if len(p.m.Log()) != 0 {
				t.Fatal("to have a piece is no Read:", p.m.Log())
			}
		}
	}
}

// Each Read of each piece, by each number of bytes that the medium was cut to since: both spans are asked.
func TestPieceReads(t *testing.T) {
	const size = 5
	for left := range size + 1 {
		p := loaded(t, letters(size))
		var list []*part
		for at := range size + 1 {
			for n := range size - at + 1 {
				list = append(list, p.piece(at, n))
			}
		}
		must(t, p.truncate(left), api.OK)
		for _, x := range list {
			for at := -2; at < size+2; at++ {
				for n := -2; n < size+2; n++ {
					x.read(at, n)
				}
			}
		}
		must(t, p.append("ABCDEFG"), api.OK)
		for _, x := range list {
			must(t, x.read(0, x.span.Length), api.OK)
			must(t, x.read(x.span.Length, 0), api.OK)
			must(t, x.read(x.span.Length+1, 0), api.ErrMediumRange)
			must(t, x.read(0, x.span.Length+1), api.ErrMediumRange)
			must(t, x.read(-1, 1), api.ErrMediumRange)
		}
	}
}

// Numbers that together go round, within the piece or behind it in the medium, are refused.
func TestPieceOfAnyNumbers(t *testing.T) {
	p := loaded(t, "abcdef")
	for _, x := range []*part{p.piece(0, 6), p.piece(2, 3), p.piece(6, 0), p.piece(3, 0)} {
		for _, a := range odd() {
			for _, b := range append(odd(), 0, 1, 2, 6, math.MaxInt-x.span.At, math.MaxInt-x.span.At+1, -x.span.At) {
				x.read(a, b)
				x.read(b, a)
			}
		}
		must(t, x.read(-1, x.span.Length), api.ErrMediumRange)
		must(t, x.read(math.MaxInt, math.MaxInt), api.ErrMediumRange)
		must(t, x.read(math.MaxInt-x.span.At, 1), api.ErrMediumRange)
		must(t, x.read(1, math.MaxInt-x.span.At), api.ErrMediumRange)
	}
}

// A piece of no bytes is read by spans of none, at its own place; cut off ahead of that, it is refused.
func TestPieceOfNoBytes(t *testing.T) {
	for size := range 4 {
		for at := range size + 1 {
			p := loaded(t, letters(size))
			x := p.piece(at, 0)
			must(t, x.read(0, 0), api.OK)
			must(t, x.read(1, 0), api.ErrMediumRange)
			must(t, x.read(0, 1), api.ErrMediumRange)
			if !slices.Equal(p.m.Log(), []api.Span{{At: at}}) {
				t.Fatal(p.m.Log())
			}
			must(t, p.truncate(at), api.OK)
			must(t, x.read(0, 0), api.OK)
			if at > 0 {
				must(t, p.truncate(at-1), api.OK)
				must(t, x.read(0, 0), api.ErrMediumRange)
			}
		}
	}
}

// A piece of the whole has no byte that was appended since.
func TestPieceOfTheWhole(t *testing.T) {
	p := loaded(t, "abc")
	x := p.piece(0, 3)
	must(t, p.append("def"), api.OK)
	must(t, x.read(0, 3), api.OK)
	must(t, x.read(3, 0), api.OK)
	must(t, x.read(3, 1), api.ErrMediumRange)
	must(t, x.read(0, 4), api.ErrMediumRange)
	must(t, p.piece(0, 6).read(3, 3), api.OK)
}

// A piece tells the bytes as they are now: written over, cut off and appended anew.
func TestPieceIsTheMediumAsItIsNow(t *testing.T) {
	p := loaded(t, "abcdef")
	x, y := p.piece(1, 4), p.piece(3, 3)
	must(t, p.overwrite(2, "XYZ"), api.OK)
	if b, e := x.src.Read(0, 4); string(b) != "bXYZ" || e != api.OK {
		t.Fatal(string(b), e)
	}
	must(t, p.m.Truncate(3), api.OK)
	if b, e := x.src.Read(0, 3); len(b) != 0 || e != api.ErrMediumRange {
		t.Fatal(string(b), e)
	}
	if b, e := x.src.Read(0, 2); string(b) != "bX" || e != api.OK {
		t.Fatal(string(b), e)
	}
	if b, e := y.src.Read(0, 0); len(b) != 0 || e != api.OK {
		t.Fatal(string(b), e)
	}
	if b, e := y.src.Read(0, 1); len(b) != 0 || e != api.ErrMediumRange {
		t.Fatal(string(b), e)
	}
	if at, e := p.m.Append([]byte("123")); at != 3 || e != api.OK {
		t.Fatal(at, e)
	}
	if b, e := x.src.Read(1, 3); string(b) != "X12" || e != api.OK {
		t.Fatal(string(b), e)
	}
	if b, e := y.src.Read(0, 3); string(b) != "123" || e != api.OK {
		t.Fatal(string(b), e)
	}
	if x.src.Size() != 4 || y.src.Size() != 3 {
		t.Fatal(x.src.Size(), y.src.Size())
	}
	want := []api.Span{{At: 1, Length: 4}, {At: 1, Length: 2}, {At: 3}, {At: 2, Length: 3}, {At: 3, Length: 3}}
	if l := p.m.Log(); !slices.Equal(l, want) {
		t.Fatal(l)
	}
}

// Of a dead medium a piece can be had, its size is told, and nothing is read; behind Revive it is.
func TestPieceOfADeadOne(t *testing.T) {
	p := loaded(t, "abc")
	old := p.piece(0, 2)
	must(t, p.arm(1, 1), api.OK)
	must(t, p.append("de"), api.ErrMediumDead)
	young := p.piece(1, 3)
	if p.piece(1, 4) != nil {
		t.Fatal("a piece beyond its end")
	}
	for _, x := range []*part{old, young} {
		for _, a := range append(odd(), -1, 0, 1, 2, 3, 4) {
			for _, b := range append(odd(), -1, 0, 1, 2, 3, 4) {
				must(t, x.read(a, b), api.ErrMediumDead)
			}
		}
	}
	must(t, p.truncate(0), api.OK)
	must(t, young.read(0, 1), api.ErrMediumDead)
	p.revive()
	must(t, young.read(0, 1), api.ErrMediumRange)
	must(t, p.append("ABCD"), api.OK)
	must(t, young.read(0, 3), api.OK)
	must(t, old.read(0, 2), api.OK)
}

// Pieces have nothing to do with one another, nor with those of another medium.
func TestPiecesAreOnesOfTheirOwn(t *testing.T) {
	p, q := loaded(t, "abcdef"), loaded(t, "ABCDEF")
	x, y, z := p.piece(1, 3), p.piece(1, 3), q.piece(1, 3)
	if x.src == y.src || x.src == z.src || x.src != x.src {
		t.Fatal("two sources are one")
	}
	must(t, p.truncate(0), api.OK)
	must(t, x.read(0, 1), api.ErrMediumRange)
	must(t, z.read(0, 3), api.OK)
	must(t, q.read(0, 6), api.OK)
	if len(p.m.Log()) != 0 || len(q.m.Log()) != 2 {
		t.Fatal(p.m.Log(), q.m.Log())
	}
}

// Behind Forget a piece goes on as before.
func TestPieceBehindForget(t *testing.T) {
	p := loaded(t, "abcdef")
	x := p.piece(2, 3)
	must(t, x.read(0, 3), api.OK)
	p.forget()
	must(t, x.read(1, 2), api.OK)
	if l := p.m.Log(); !slices.Equal(l, []api.Span{{At: 3, Length: 2}}) {
		t.Fatal(l)
	}
}

func TestExampleOfPieces(t *testing.T) {
	m, _ := medium.Load([]byte("abcdef"))
	x, e := m.Piece(api.Span{At: 1, Length: 3})
	if e != api.OK || x.Size() != 3 {
		t.Fatal(e)
	}
	if b, e := x.Read(0, 3); string(b) != "bcd" || e != api.OK {
		t.Fatal(string(b), e)
	}
	if b, e := x.Read(1, 3); len(b) != 0 || e != api.ErrMediumRange {
		t.Fatal(string(b), e)
	}
	must(t, m.Truncate(2), api.OK)
	if b, e := x.Read(0, 1); string(b) != "b" || e != api.OK {
		t.Fatal(string(b), e)
	}
	if b, e := x.Read(0, 2); len(b) != 0 || e != api.ErrMediumRange || x.Size() != 3 {
		t.Fatal(string(b), e, x.Size())
	}
}
