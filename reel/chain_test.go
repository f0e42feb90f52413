package reel_test

import (
	"strings"
	"testing"

	"dailies/api"
	"dailies/medium"
	"dailies/reel"
)

// three is a finished reel of three records.
func three() said {
	return said{label: api.Label{Title: "three", Rate: 2, Start: 40}, texts: []string{record("one"), record(saidLink(2, 44)), record("")}, finished: true}
}

// R5: a reel of which any one byte is another one is as the chapter's chain is.
func TestR5AnyOneByteIsAnother(t *testing.T) {
	text := three().bytes()
	for at := range len(text) {
		for _, v := range []byte{1, 2, 16, 128, 255} {
			b := []byte(text)
			b[at] ^= v
			m, _ := medium.Load(b)
			opens(t, m)
		}
	}
}

// R5: a link of which one byte is another one ends the chain; what is ahead stays, and the reel is not finished.
func TestR5LinksOfWhichOneByteIsAnother(t *testing.T) {
	s := three()
	text := s.bytes()
	for i, x := range s.receipts() {
		for at := x.At - 16; at < x.At; at++ {
			for v := range 255 {
				b := []byte(text)
				b[at] ^= byte(v + 1)
				m, _ := medium.Load(b)
				r, e := reel.Open(m)
				must(t, e, api.OK)
				tells(t, r, said{label: s.label, texts: s.texts[:i]})
			}
		}
	}
}

// R5: an index or a foot of which one byte is another one finishes nothing; Continue cuts it off.
func TestR5EndsOfWhichOneByteIsAnother(t *testing.T) {
	s := three()
	text := s.bytes()
	s.finished = false
	for at := len(s.bytes()); at < len(text); at++ {
		for v := range 255 {
			b := []byte(text)
			b[at] ^= byte(v + 1)
			m, _ := medium.Load(b)
			r, e := reel.Open(m)
			must(t, e, api.OK)
			tells(t, r, s)
			w, e := reel.Continue(m)
			if e != api.OK || w.Count() != 3 || string(m.Bytes()) != s.bytes() {
				t.Fatal(at, v, e)
			}
		}
	}
}

// R5: links whose sum is right and which are not the chain's: another number, a length that the medium has not, other letters.
func TestR5LinksThatAreWrongThoughTheirSumIsRight(t *testing.T) {
	s := three()
	for i, x := range s.receipts() {
		text := s.bytes()
		left := len(text) - x.At
		for _, link := range []string{
			saidLink(i+1, x.Length), saidLink(i-1, x.Length), saidLink(i+1<<8, x.Length), saidLink(i+1<<24, x.Length),
			saidLink(i, left+1), saidLink(i, left+2), saidLink(i, 1<<28), saidLink(i, 1<<31-1), saidLink(i, 1<<31), saidLink(i, 1<<32-1), saidLink(i, 1<<32-16),
			withSum("LINX" + four(i) + four(x.Length)), withSum("KNIL" + four(i) + four(x.Length)), withSum("INDX" + four(i) + four(x.Length)),
			strings.Repeat("\x00", 16), strings.Repeat("\xff", 16),
		} {
			r, e := reel.Open(load(t, text[:x.At-16]+link+text[x.At:]))
			must(t, e, api.OK)
			tells(t, r, said{label: s.label, texts: s.texts[:i]})
		}
		// A length that the medium has is the chain's, wherever that leads.
		for _, length := range []int{0, 1, x.Length - 1, x.Length + 1, left - 1, left} {
			m := load(t, text[:x.At-16]+saidLink(i, length)+text[x.At:])
			r, _ := opens(t, m)
			if got, e := r.Receipt(i); e != api.OK || got != (api.Receipt{Number: i, At: x.At, Length: length}) {
				t.Fatal(i, length, got, e)
			}
		}
	}
}

// R5, R7: what a record's bytes are is not asked: none, few, or no record's.
func TestR5RecordsOfAnyBytes(t *testing.T) {
	for _, texts := range [][]string{{""}, {"", "", ""}, {"x"}, {"", "LINK", ""}, {strings.Repeat("\xff", 31), saidLink(1, 0)}, {saidIndex()}} {
		for _, finished := range []bool{false, true} {
			s := said{label: api.Label{Rate: 1}, texts: texts, finished: finished}
			m := load(t, s.bytes())
			r, e := reel.Open(m)
			must(t, e, api.OK)
			tells(t, r, s)
		}
	}
}

// R5: an index or a foot with right sums that is not of these records, or has bytes ahead, between or behind, finishes nothing.
func TestR5EndsThatAreNotOfTheseRecords(t *testing.T) {
	s := three()
	s.finished = false
	body := s.bytes()
	at := len(body)
	x := s.receipts()
	a, b, c := x[0].At-16, x[1].At-16, x[2].At-16
	right := saidIndex(a, b, c)
	for _, end := range []string{
		right, saidFoot(at), right + saidFoot(at) + "x", right + saidFoot(at) + saidFoot(at), right + saidFoot(at) + right + saidFoot(at), "x" + right + saidFoot(at), right + "x" + saidFoot(at), saidFoot(at) + right,
		right + saidFoot(at+1), right + saidFoot(at-1), right + saidFoot(0), right + saidFoot(at+len(right)),
		saidIndex() + saidFoot(at), saidIndex(a, b) + saidFoot(at), saidIndex(a, b, c, at) + saidFoot(at), saidIndex(a, c, b) + saidFoot(at), saidIndex(a, b, c+1) + saidFoot(at), saidIndex(x[0].At, x[1].At, x[2].At) + saidFoot(at), saidIndex(a, a, a) + saidFoot(at),
		withSum("INDX"+four(2)+four(a)+four(b)+four(c)) + saidFoot(at), withSum("INDY"+four(3)+four(a)+four(b)+four(c)) + saidFoot(at), right + withSum("FOOX"+four(at)),
		right[:len(right)-4] + "\x00\x00\x00\x00" + saidFoot(at), right + "FOOT" + four(at) + "\x00\x00\x00\x00",
	} {
		m := load(t, body+end)
		r, e := reel.Open(m)
		must(t, e, api.OK)
		tells(t, r, s)
		w, e := reel.Continue(m)
		if e != api.OK || w.Count() != 3 || string(m.Bytes()) != body {
			t.Fatalf("%q: %v", end, e)
		}
	}
	r, e := reel.Open(load(t, body+right+saidFoot(at)))
	must(t, e, api.OK)
	if !r.Finished() {
		t.Fatal("not finished")
	}
}

// R5: places are those of the medium, whatever label stands ahead; a reel that stands further behind is none.
func TestR5PlacesAreTheMediums(t *testing.T) {
	for _, title := range titlesThatMayBe() {
		s := said{label: api.Label{Title: title, Rate: 2}, texts: []string{record("a"), record("b")}, finished: true}
		r, e := reel.Open(load(t, s.bytes()))
		must(t, e, api.OK)
		tells(t, r, s)
		if x, _ := r.Receipt(0); x.At != 15+len(title)+16 {
			t.Fatal(title, x)
		}
		for _, ahead := range []string{"\x00", "REEL", s.bytes()[:10]} {
			if r, e := reel.Open(load(t, ahead+s.bytes())); r != nil || e != api.ErrReelNone {
				t.Fatal(title, r, e)
			}
		}
	}
}

// R5: bytes of any kind are opened as the chapter's chain is; pieces of reels stand among them.
func TestR5AnyBytes(t *testing.T) {
	c := chance(165)
	reels := 0
	for range 4000 {
		s := said{label: api.Label{Title: c.some(c.below(3)), Rate: api.Rate(c.below(9)), Start: c.below(5184002)}}
		text := ""
		if c.below(5) > 0 {
			text = saidLabel(s.label)
		}
		for range c.below(8) {
			switch c.below(5) {
			case 0:
				text += c.some(c.below(20))
			case 1:
				text += saidIndex() + saidFoot(len(text))
			case 2:
				text += saidLink(c.below(4), c.below(30))
			default:
				n := c.below(20)
				u, _ := understood(text)
				text += saidLink(len(u.texts), n) + c.some(n)
			}
		}
		if u, is := understood(text); is && c.below(3) == 0 && u.body() == text {
			text += u.end()
		}
		if r, _ := opens(t, load(t, text)); r != nil {
			reels++
		}
	}
	if reels < 1000 {
		t.Error("too few reels:", reels)
	}
}

// R5, R6: a reel is as it stood when it was opened, whatever becomes of the medium; Label, Count, Finished and Receipt ask no medium.
func TestR6AReelStaysAsItWasOpened(t *testing.T) {
	s := three()
	s.finished = false
	m := load(t, s.bytes())
	r, e := reel.Open(m)
	must(t, e, api.OK)
	w, e := reel.Continue(m)
	must(t, e, api.OK)
	list := s.receipts()
	log := len(m.Log())
	looks := func() {
		t.Helper()
		if r.Label() != s.label || r.Count() != 3 || r.Finished() {
			t.Fatal(r.Label(), r.Count(), r.Finished())
		}
		for i := range 3 {
			if x, e := r.Receipt(i); x != list[i] || e != api.OK {
				t.Fatal(i, x, e)
			}
		}
		if x, e := r.Receipt(3); x != (api.Receipt{}) || e != api.ErrReelNone {
			t.Fatal(x, e)
		}
	}
	for _, befalls := range []func(){
		func() { adds(t, m, w, record("later")) },
		func() { finishes(t, m, w) },
		func() { m.Overwrite(0, []byte("XXXX")) },
		func() { m.Truncate(40) },
		func() { m.Truncate(0) },
		func() { m.Arm(1, 0); m.Append(nil) },
		func() { m.Revive() },
	} {
		befalls()
		looks()
	}
	if len(m.Log()) != log {
		t.Fatal("a medium was asked")
	}
	finished, e := reel.Open(load(t, three().bytes()))
	if e != api.OK || !finished.Finished() {
		t.Fatal(e)
	}
}

// R7: Record is what the medium's Piece answers: refused where the medium was cut off, had of a dead one, and it tells the bytes as they are now.
func TestR7RecordIsAPiece(t *testing.T) {
	s := three()
	m := load(t, s.bytes())
	r, e := reel.Open(m)
	must(t, e, api.OK)
	x, _ := r.Receipt(1)
	src, e := r.Record(1)
	must(t, e, api.OK)
	same(t, src, s.texts[1])
	must(t, m.Overwrite(x.At+3, []byte("?")), api.OK)
	same(t, src, s.texts[1][:3]+"?"+s.texts[1][4:])
	for _, span := range []api.Span{{At: -1, Length: 1}, {At: 0, Length: x.Length + 1}, {At: x.Length, Length: 1}, {At: 1, Length: -1}} {
		if b, e := src.Read(span.At, span.Length); b != nil || e != api.ErrMediumRange {
			t.Fatal(span, b, e)
		}
	}
	must(t, m.Arm(1, 0), api.OK)
	m.Append(nil)
	for i := range 3 {
		src, e := r.Record(i)
		if e != api.OK || src.Size() != len(s.texts[i]) {
			t.Fatal(i, e)
		}
		if _, e := src.Read(0, 1); e != api.ErrMediumDead {
			t.Fatal(e)
		}
	}
	m.Revive()
	must(t, m.Truncate(x.At+x.Length), api.OK)
	if _, e := r.Record(1); e != api.OK {
		t.Fatal(e)
	}
	must(t, m.Truncate(x.At+x.Length-1), api.OK)
	for i, want := range []api.Errno{api.OK, api.ErrMediumRange, api.ErrMediumRange, api.ErrReelNone} {
		if src, e := r.Record(i); e != want || (src == nil) != (e != api.OK) {
			t.Fatal(i, src, e)
		}
	}
	if b, e := src.Read(0, x.Length-1); e != api.OK || len(b) != x.Length-1 {
		t.Fatal(e)
	}
	if _, e := src.Read(0, x.Length); e != api.ErrMediumRange {
		t.Fatal(e)
	}
}
