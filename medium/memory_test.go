package medium_test

import (
	"bytes"
	"slices"
	"testing"

	"dailies/api"
	"dailies/medium"
)

// spare is bytes with room behind them that is written full.
func spare(b string) []byte {
	list := bytes.Repeat([]byte{77}, len(b)+20)
	copy(list, b)
	return list[:len(b)]
}

// flip turns each bit of a list and of its spare room.
func flip(b []byte) {
	b = b[:cap(b)]
	for i := range b {
		b[i] ^= 255
	}
}

// P3: what an argument holds is as it was behind every call, its spare room too, taken or refused.
func TestP3NothingHandedInIsWrittenInto(t *testing.T) {
	m := medium.New()
	for _, text := range []string{"", "a", "abcdef"} {
		b := spare(text)
		was := slices.Clone(b[:cap(b)])
		for _, call := range []func(){
			func() { m, _ = medium.Load(b) },
			func() { m.Append([]byte("xyz")) },
			func() { m.Append(b) },
			func() { m.Append(b) },
			func() { m.Overwrite(0, b) },
			func() { m.Overwrite(0, []byte("Q")) },
			func() { m.Overwrite(99, b) },
			func() { m.Truncate(1) },
			func() { m.Append(b) },
			func() { m.Arm(1, 1) },
			func() { m.Append(b) },
			func() { m.Append(b) },
			func() { m.Overwrite(0, b) },
			func() { m.Revive() },
			func() { m.Append([]byte("xyz")) },
		} {
			call()
			if !bytes.Equal(b[:cap(b)], was) {
				t.Fatal(text, string(b))
			}
		}
	}
}

// P3: what was handed in is not kept: written over by its owner, it leaves the medium as it is.
func TestP3NothingHandedInIsKept(t *testing.T) {
	b := spare("abc")
	m, _ := medium.Load(b)
	flip(b)
	for _, text := range []string{"de", "fgh", "i"} {
		b := spare(text)
		if _, e := m.Append(b); e != api.OK {
			t.Fatal(e)
		}
		flip(b)
	}
	b = spare("XY")
	must(t, m.Overwrite(1, b), api.OK)
	flip(b)
	must(t, m.Arm(1, 2), api.OK)
	b = spare("jkl")
	m.Append(b)
	flip(b)
	if string(m.Bytes()) != "aXYdefghijk" {
		t.Fatal(string(m.Bytes()))
	}
	// The first bytes of an empty medium are no exception.
	b = spare("abc")
	n := medium.New()
	n.Append(b)
	flip(b)
	if string(n.Bytes()) != "abc" {
		t.Fatal(string(n.Bytes()))
	}
}

// P3: all that Read, Bytes and pieces tell is the caller's: written full, with its spare room, it leaves the medium and all other answers as they are.
func TestP3AnswersAreNewMemory(t *testing.T) {
	for size := range 40 {
		p := loaded(t, letters(size))
		x := p.piece(0, size)
		var list [][]byte
		for range 3 {
			one, e := p.m.Read(0, size)
			two, f := x.src.Read(0, size)
			if e != api.OK || f != api.OK {
				t.Fatal(e, f)
			}
			list = append(list, p.m.Bytes(), one, two)
		}
		for i, b := range list {
			if string(b) != letters(size) {
				t.Fatal(size, i, string(b))
			}
			b = b[:cap(b)]
			for k := range b {
				b[k] = byte(i)
			}
			list[i] = b
		}
		for i, b := range list {
			for _, v := range b {
				if v != byte(i) {
					t.Fatal(size, "answers share memory:", i)
				}
			}
		}
		if string(p.m.Bytes()) != letters(size) {
			t.Fatal(string(p.m.Bytes()))
		}
	}
}

// P3: nothing that befalls the medium is seen in what it told, though it takes the same room.
func TestP3AnswersStayAsTheyAre(t *testing.T) {
	p := loaded(t, "abcdef")
	x := p.piece(1, 4)
	one, _ := p.m.Read(0, 6)
	two, _ := x.src.Read(0, 4)
	three := p.m.Bytes()
	must(t, p.m.Overwrite(0, []byte("ABCDEF")), api.OK)
	must(t, p.m.Truncate(0), api.OK)
	p.m.Append([]byte("123456789"))
	if string(one) != "abcdef" || string(two) != "bcde" || string(three) != "abcdef" {
		t.Fatal(string(one), string(two), string(three))
	}
	// What is appended to an answer does not come to the medium, nor to another answer.
	four, _ := p.m.Read(0, 3)
	five, _ := p.m.Read(0, 3)
	_ = append(four, "xxxxxx"...)
	_ = append(five, "yyyyyy"...)
	if b := p.m.Bytes(); string(b) != "123456789" {
		t.Fatal(string(b))
	}
}

// P3: the log that is told is the caller's, too.
func TestP3LogsAreNewMemory(t *testing.T) {
	p := loaded(t, "abcdef")
	var want []api.Span
	for i := range 20 {
		p.m.Read(i%6, 1)
		want = append(want, api.Span{At: i % 6, Length: 1})
		one, two := p.m.Log(), p.m.Log()
		if !slices.Equal(one, want) || !slices.Equal(two, want) {
			t.Fatal(one, two)
		}
		one = one[:cap(one)]
		for k := range one {
			one[k] = api.Span{At: -1, Length: -1}
		}
		_ = append(two[:1], api.Span{At: 9, Length: 9})
		if l := p.m.Log(); !slices.Equal(l, want) {
			t.Fatal(l)
		}
	}
	old := p.m.Log()
	p.m.Forget()
	for range 30 {
		p.m.Read(5, 1)
	}
	if !slices.Equal(old, want) {
		t.Fatal("an old log is another one:", old)
	}
}

// P3: the span that a piece was asked by is a copy, and Load makes media of their own of the same bytes.
func TestP3MediaOfTheSameBytes(t *testing.T) {
	b := []byte("abc")
	m, _ := medium.Load(b)
	n, _ := medium.Load(b)
	must(t, m.Overwrite(0, []byte("X")), api.OK)
	m.Append([]byte("d"))
	if string(m.Bytes()) != "Xbcd" || string(n.Bytes()) != "abc" || string(b) != "abc" {
		t.Fatal(string(m.Bytes()), string(n.Bytes()), string(b))
	}
	s := api.Span{At: 1, Length: 2}
	x, _ := m.Piece(s)
	s.At, s.Length = 0, 0
	if got, e := x.Read(0, 2); string(got) != "bc" || e != api.OK || x.Size() != 2 {
		t.Fatal(string(got), e)
	}
}
