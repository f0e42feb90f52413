package view_test

import (
	"bytes"
	"math"
	"testing"

	"dailies/api"
	"dailies/view"
)

// V1: each span of a source that lies in its bytes is told, and no other one.
func TestV1OfTellsAllSpans(t *testing.T) {
	for n := range 9 {
		var b []byte
		for i := range n {
			b = append(b, byte(200+i))
		}
		src := view.Of(b)
		if src == nil || src.Size() != n {
			t.Fatal(n, src)
		}
		for at := -3; at < n+4; at++ {
			for k := -3; k < n+4; k++ {
				got, e := src.Read(at, k)
				if at < 0 || k < 0 || at+k > n {
					if len(got) != 0 || e != api.ErrMediumRange {
						t.Fatal(n, at, k, got, e)
					}
				} else if !bytes.Equal(got, b[at:at+k]) || e != api.OK {
					t.Fatal(n, at, k, got, e)
				}
			}
		}
		if src.Size() != n {
			t.Fatal(n, "its size is another one")
		}
	}
}

func TestV1OfRefusesAnyNumbers(t *testing.T) {
	src := view.Of([]byte{1, 2, 3})
	for _, x := range odd() {
		for _, y := range append(odd(), 0, 1, 2, 3) {
			for _, span := range []api.Span{{At: x, Length: y}, {At: y, Length: x}} {
				if b, e := src.Read(span.At, span.Length); len(b) != 0 || e != api.ErrMediumRange {
					t.Fatal(span, b, e)
				}
			}
		}
	}
	// Together they go round to what would lie in the bytes.
	if b, e := src.Read(math.MaxInt, math.MaxInt); len(b) != 0 || e != api.ErrMediumRange {
		t.Fatal(b, e)
	}
}

func TestV1OfIsACopy(t *testing.T) {
	b := spare([]byte{1, 2, 3}, 9)
	src := view.Of(b)
	clear(b[:cap(b)])
	one, _ := src.Read(0, 3)
	if !bytes.Equal(one, []byte{1, 2, 3}) {
		t.Fatal(one)
	}
	two, _ := src.Read(0, 2)
	three, _ := src.Read(1, 2)
	for _, list := range [][]byte{one, two, three} {
		flip(list[:cap(list)])
	}
	four, _ := src.Read(0, 3)
	if !bytes.Equal(four, []byte{1, 2, 3}) || !bytes.Equal(one, []byte{254, 253, 252}) || !bytes.Equal(two, []byte{254, 253}) || !bytes.Equal(three, []byte{253, 252}) {
		t.Fatal(one, two, three, four)
	}
}

// Sources can be held against each other, and no two are one.
func TestV1SourcesAreOnesOfTheirOwn(t *testing.T) {
	b := []byte{1}
	x, y := view.Of(b), view.Of(b)
	if x == y || x != x {
		t.Error("two sources are one")
	}
	if view.Of(nil).Size() != 0 || view.Of([]byte{}).Size() != 0 {
		t.Error("a source of nothing has bytes")
	}
}

func TestExampleOfSources(t *testing.T) {
	src := view.Of([]byte{1, 2, 3})
	if src.Size() != 3 {
		t.Error(src.Size())
	}
	if b, e := src.Read(1, 2); !bytes.Equal(b, []byte{2, 3}) || e != api.OK {
		t.Error(b, e)
	}
	if b, e := src.Read(3, 0); len(b) != 0 || e != api.OK {
		t.Error(b, e)
	}
	for _, span := range []api.Span{{At: 2, Length: 2}, {At: -1, Length: 1}} {
		if b, e := src.Read(span.At, span.Length); len(b) != 0 || e != api.ErrMediumRange {
			t.Error(span, b, e)
		}
	}
}
