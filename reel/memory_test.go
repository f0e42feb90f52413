package reel_test

import (
	"bytes"
	"testing"

	"dailies/api"
	"dailies/medium"
	"dailies/reel"
)

// spare is bytes with room behind them that is written full.
func spare(text string) []byte {
	list := bytes.Repeat([]byte{77}, len(text)+40)
	copy(list, text)
	return list[:len(text)]
}

// P3: what an argument holds is as it was behind every Add, its spare room too, taken or refused.
func TestP3NothingHandedInIsWrittenInto(t *testing.T) {
	for _, text := range append(noRecords(), spelling()...) {
		m, w := created(t, api.Label{Rate: 1})
		b := spare(text)
		was := bytes.Clone(b[:cap(b)])
		for _, call := range []func(){
			func() { w.Add(b) },
			func() { w.Add([]byte(record("other"))) },
			func() { w.Add(b) },
			func() { w.Finish() },
			func() { w.Add(b) },
			func() { m.Truncate(m.Size() - 1); w, _ = reel.Continue(m) },
			func() { m.Arm(1, 50) },
			func() { w.Add(b) },
			func() { w.Add(b) },
		} {
			call()
			if !bytes.Equal(b[:cap(b)], was) {
				t.Fatalf("%q", text)
			}
		}
	}
}

// P3: a record that was handed in is not kept: written over by its owner, it leaves the reel as it is.
func TestP3NothingHandedInIsKept(t *testing.T) {
	s := said{label: api.Label{Rate: 1}, texts: spelling(), finished: true}
	m, w := created(t, s.label)
	b := make([]byte, 0, 1000)
	for _, text := range s.texts {
		b = append(b[:0], text...)
		if _, e := w.Add(b); e != api.OK {
			t.Fatal(e)
		}
		clear(b[:cap(b)])
	}
	finishes(t, m, w)
	if string(m.Bytes()) != s.bytes() {
		t.Fatalf("%q", m.Bytes())
	}
	opens(t, m)
}

// P3: what the sources tell is the caller's: written full, with its spare room, it leaves the reel and all other answers as they are.
func TestP3AnswersAreNewMemory(t *testing.T) {
	s := three()
	m := load(t, s.bytes())
	r, e := reel.Open(m)
	must(t, e, api.OK)
	var list [][]byte
	for range 2 {
		for x, src := range r.All() {
			one, _ := src.Read(0, x.Length)
			again, _ := r.Record(x.Number)
			two, _ := again.Read(0, x.Length)
			list = append(list, one, two)
		}
	}
	for i, b := range list {
		b = b[:cap(b)]
		for k := range b {
			b[k] = byte(i)
		}
		list[i] = b
	}
	for i, b := range list {
		if bytes.Count(b, []byte{byte(i)}) != len(b) {
			t.Fatal("answers share memory:", i)
		}
	}
	tells(t, r, s)
	if string(m.Bytes()) != s.bytes() {
		t.Fatal("the medium is another one")
	}
}

// P3: reels and writers of one medium keep what is theirs apart: a reel that was opened grows by no later Add.
func TestP3ReelsAndWritersShareNothing(t *testing.T) {
	s := three()
	s.finished = false
	m := load(t, s.bytes())
	r, e := reel.Open(m)
	must(t, e, api.OK)
	w, e := reel.Continue(m)
	must(t, e, api.OK)
	for range 20 {
		adds(t, m, w, record("more"))
		tells(t, r, s)
	}
	two, e := reel.Open(m)
	must(t, e, api.OK)
	if two.Count() != 23 || r.Count() != 3 {
		t.Fatal(two.Count(), r.Count())
	}
}

// P4: reels on unlike media have nothing to do with one another, though they are written in turn.
func TestP4ReelsBesideOneAnother(t *testing.T) {
	c := chance(4)
	const many = 6
	var media [many]*medium.Medium
	var writers [many]*reel.Writer
	var want [many]said
	for i := range many {
		want[i].label = api.Label{Title: string(rune('a' + i)), Rate: api.Rate(1 + i), Start: i}
		media[i], writers[i] = created(t, want[i].label)
	}
	for range 300 {
		i := c.below(many)
		text := record(c.some(c.below(30)))
		adds(t, media[i], writers[i], text)
		want[i].texts = append(want[i].texts, text)
	}
	for i := range many {
		if i%2 == 0 {
			finishes(t, media[i], writers[i])
			want[i].finished = true
		}
	}
	for i := range many {
		if string(media[i].Bytes()) != want[i].bytes() {
			t.Fatal(i)
		}
		r, e := reel.Open(media[i])
		must(t, e, api.OK)
		tells(t, r, want[i])
	}
}
