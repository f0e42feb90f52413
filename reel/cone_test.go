package reel_test

import (
	"strings"
	"testing"

	"dailies/api"
	"dailies/medium"
	"dailies/reel"
)

// hurts are texts to be written over so many bytes.
func hurts(c *chance, n int) []string {
	list := []string{strings.Repeat("\x00", n), strings.Repeat("\xff", n), c.some(n), c.some(n)}
	for _, text := range append(spelling(), saidLink(0, 0), saidLink(1, 0), saidLink(2, 3), saidLink(3, 0), saidIndex()+saidFoot(0)) {
		list = append(list, (text + strings.Repeat("\x00", n))[:n])
	}
	return list
}

// keeps looks whether a reel has these records at least, as they were, with their receipts, but for one of which the bytes may be any.
func keeps(t *testing.T, m *medium.Medium, s said, n int, but int) *reel.Reel {
	t.Helper()
	r, e := reel.Open(m)
	must(t, e, api.OK)
	if r.Label() != s.label || r.Count() < n {
		t.Fatal(r.Label(), r.Count())
	}
	list := s.receipts()
	for i := range n {
		if x, e := r.Receipt(i); x != list[i] || e != api.OK {
			t.Fatal(i, x, e)
		}
		src, e := r.Record(i)
		must(t, e, api.OK)
		if i != but {
			same(t, src, s.texts[i])
		}
	}
	return r
}

// P16.3, T9: what is written over within a record leaves all receipts and all other records, and whether the reel is finished.
func TestP16_3WithinARecord(t *testing.T) {
	c := chance(1631)
	for _, finished := range []bool{false, true} {
		s := said{label: api.Label{Title: "cone", Rate: 2}, texts: spelling(), finished: finished}
		for i, x := range s.receipts() {
			for range 12 {
				from := c.below(x.Length)
				n := 1 + c.below(x.Length-from)
				for _, hurt := range append(hurts(&c, n), hurts(&c, x.Length)...) {
					at := x.At
					if len(hurt) < x.Length {
						at += min(from, x.Length-len(hurt))
					}
					m := load(t, s.bytes())
					must(t, m.Overwrite(at, []byte(hurt)), api.OK)
					r := keeps(t, m, s, len(s.texts), i)
					if r.Count() != len(s.texts) || r.Finished() != finished {
						t.Fatal(i, r.Count(), r.Finished())
					}
				}
			}
		}
	}
}

// P16.3, T9: what is written over within a link leaves all records ahead of it, and their receipts.
func TestP16_3WithinALink(t *testing.T) {
	c := chance(1632)
	s := said{label: api.Label{Title: "cone", Rate: 2}, texts: spelling(), finished: true}
	for i, x := range s.receipts() {
		for from := range 16 {
			for n := 1; from+n <= 16; n++ {
				for _, hurt := range append(hurts(&c, n), saidLink(i, 0)[:n], saidLink(i, x.Length+16)[:n], saidLink(i+1, x.Length)[:n]) {
					m := load(t, s.bytes())
					must(t, m.Overwrite(x.At-16+from, []byte(hurt)), api.OK)
					keeps(t, m, s, i, -1)
				}
			}
		}
	}
}

// P16.3, T9: what is written over within the index or the foot leaves all records.
func TestP16_3WithinTheIndexOrTheFoot(t *testing.T) {
	c := chance(1633)
	s := said{label: api.Label{Title: "cone", Rate: 2}, texts: spelling(), finished: true}
	text := s.bytes()
	end := len(said{label: s.label, texts: s.texts}.bytes())
	n := len(s.texts)
	for from := end; from < len(text); from++ {
		for _, length := range []int{1, 2, 4, 8, 12, 16, 20, len(text) - end} {
			if from+length > len(text) {
				continue
			}
			for _, hurt := range append(hurts(&c, length), (saidLink(n, 0) + saidLink(n+1, 0) + strings.Repeat("x", 40))[:length]) {
				m := load(t, text)
				must(t, m.Overwrite(from, []byte(hurt)), api.OK)
				r := keeps(t, m, s, n, -1)
				if r.Finished() != (string(m.Bytes()) == text) {
					t.Fatal(from, r.Finished())
				}
			}
		}
	}
}
