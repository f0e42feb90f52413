package medium_test

import (
	"slices"
	"testing"

	"dailies/api"
)

// number is one from 0 to a bit above the size, and now and then one that may never be.
func (c *chance) number(size int) int {
	if c.below(10) == 0 {
		return odd()[c.below(len(odd()))]
	}
	return c.below(size+3) - 1
}

// step makes one call of any kind, as chance has it.
func step(c *chance, p *pair, parts *[]*part) {
	p.Helper()
	size := len(p.s.bytes)
	switch c.below(14) {
	case 0, 1, 2:
		p.append(string(c.some(c.below(6))))
	case 3, 4:
		p.read(c.number(size), c.number(size/2))
	case 5:
		p.arm(c.below(6)-1, c.below(7)-1)
	case 6:
		p.overwrite(c.number(size), string(c.some(c.below(5))))
	case 7:
		p.truncate(c.number(size))
	case 8:
		p.revive()
	case 9:
		if c.below(4) == 0 {
			p.forget()
		}
	case 10:
		if x := p.piece(c.number(size), c.number(size/2)); x != nil {
			*parts = append(*parts, x)
		}
	default:
		if n := len(*parts); n > 0 {
			x := (*parts)[c.below(n)]
			x.read(c.number(x.span.Length), c.number(x.span.Length))
		}
	}
}

// P15.1 to P15.4, P2: media through many calls of all kinds are as the chapter says at each of them.
func TestP15ManyCalls(t *testing.T) {
	c := chance(15)
	told := map[bool]int{}
	for range 150 {
		p := loaded(t, string(c.some(c.below(9))))
		var parts []*part
		for range 150 {
			step(&c, p, &parts)
			told[p.s.dead]++
		}
	}
	if told[true] < 2000 || told[false] < 2000 {
		t.Error("not of both kinds:", told)
	}
}

// P4: media that are asked in turn have nothing to do with one another.
func TestP4MediaBesideOneAnother(t *testing.T) {
	c := chance(16)
	list, parts := make([]*pair, 7), make([][]*part, 7)
	for i := range list {
		list[i] = loaded(t, letters(i))
	}
	for range 4000 {
		i := c.below(len(list))
		step(&c, list[i], &parts[i])
		list[c.below(len(list))].stands()
	}
}

// P15.1: what was appended is read at the place that Append told, by Read and by pieces, whatever is appended, written over and cut off elsewhere, and through deaths.
func TestP15_1WhatWasAppended(t *testing.T) {
	c := chance(151)
	p := loaded(t, "ahead")
	var list []*part
	var texts []string
	for i := range 60 {
		b := string(c.some(i % 11))
		at, e := p.m.Append([]byte(b))
		must(t, e, api.OK)
		p.s.append(b)
		texts = append(texts, b)
		list = append(list, p.piece(at, len(b)))
		hurt := string(c.some(3))
		p.append(hurt)
		p.overwrite(len(p.s.bytes)-3, "???")
		switch i % 3 {
		case 0:
			p.truncate(len(p.s.bytes) - 2)
		case 1:
			p.arm(1, i%5)
			p.append("dying")
			p.revive()
		}
		for k, x := range list {
			for _, read := range []func() ([]byte, api.Errno){
				func() ([]byte, api.Errno) { return x.src.Read(0, x.src.Size()) },
				func() ([]byte, api.Errno) { return p.m.Read(x.span.At, x.span.Length) },
			} {
				if b, e := read(); string(b) != texts[k] || e != api.OK {
					t.Fatal(i, k, b, texts[k], e)
				}
			}
		}
		p.s.log = p.m.Log()
	}
}

// P15.2: behind each death the bytes are those that were there and a beginning of what was to be appended, just as long as Arm said.
func TestP15_2WhereItDied(t *testing.T) {
	for size := range 4 {
		for length := range 6 {
			for keep := range 8 {
				p := loaded(t, letters(size))
				b := "ABCDEF"[:length]
				must(t, p.m.Arm(1, keep), api.OK)
				if at, e := p.m.Append([]byte(b)); at != 0 || e != api.ErrMediumDead {
					t.Fatal(at, e)
				}
				want := letters(size) + b
				want = want[:min(len(want), size+keep)]
				if string(p.m.Bytes()) != want || p.m.Size() != len(want) {
					t.Fatal(size, length, keep, string(p.m.Bytes()), want)
				}
				p.m.Revive()
				if at, e := p.m.Append([]byte("!")); at != len(want) || e != api.OK || string(p.m.Bytes()) != want+"!" {
					t.Fatal(at, e, string(p.m.Bytes()))
				}
			}
		}
	}
}

// P15.3: the log grows by just the Reads that answered OK; by none that was refused, and by no other call.
func TestP15_3TheLog(t *testing.T) {
	p := loaded(t, "abcdef")
	x := p.piece(2, 3)
	for _, call := range []func(){
		func() { p.m.Size() },
		func() { p.m.Bytes() },
		func() { p.m.Append([]byte("gh")) },
		func() { p.m.Append(nil) },
		func() { p.m.Arm(3, 0) },
		func() { p.m.Arm(-1, 0) },
		func() { p.m.Dead() },
		func() { p.m.Overwrite(0, []byte("A")) },
		func() { p.m.Overwrite(99, []byte("A")) },
		func() { p.m.Truncate(7) },
		func() { p.m.Truncate(99) },
		func() { p.m.Log() },
		func() { p.m.Piece(api.Span{At: 1, Length: 2}) },
		func() { p.m.Piece(api.Span{At: 1, Length: 99}) },
		func() { x.src.Size() },
		func() { p.m.Read(0, 8) },
		func() { p.m.Read(-1, 1) },
		func() { x.src.Read(0, 4) },
		func() { x.src.Read(-1, 1) },
		func() { p.m.Revive() },
		func() { p.m.Arm(1, 0); p.m.Append(nil) },
		func() { p.m.Read(0, 1) },
		func() { x.src.Read(0, 1) },
		func() { p.m.Revive() },
	} {
		call()
		if l := p.m.Log(); len(l) != 0 {
			t.Fatal(l)
		}
	}
	p.m.Read(1, 2)
	x.src.Read(1, 2)
	p.m.Read(0, 99)
	x.src.Read(0, 0)
	x.src.Read(4, 0)
	p.m.Read(7, 0)
	want := []api.Span{{At: 1, Length: 2}, {At: 3, Length: 2}, {At: 2}, {At: 7}}
	if l := p.m.Log(); !slices.Equal(l, want) {
		t.Fatal(l)
	}
}

// P15.4: between two calls that change it all Reads of one span tell the same, whatever else is called.
func TestP15_4TheSameEachTime(t *testing.T) {
	p := loaded(t, letters(50))
	x := p.piece(10, 30)
	one, _ := p.m.Read(15, 20)
	for range 3 {
		for _, call := range []func(){
			func() { p.m.Arm(1, 5) },
			func() { p.m.Revive() },
			func() { p.m.Forget() },
			func() { p.m.Piece(api.Span{At: 15, Length: 20}) },
			func() { p.m.Bytes() },
			func() { p.m.Truncate(99) },
			func() { p.m.Overwrite(49, []byte("??")) },
			func() { clear(one) },
		} {
			call()
			two, e := p.m.Read(15, 20)
			three, f := x.src.Read(5, 20)
			if want := letters(50)[15:35]; string(two) != want || string(three) != want || e != api.OK || f != api.OK {
				t.Fatal(string(two), string(three), e, f)
			}
		}
	}
}
