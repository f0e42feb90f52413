package reel_test

import (
	"testing"

	"dailies/api"
	"dailies/reel"
)

// whole tells how many records of a reel lie whole ahead of a place.
func whole(s said, place int) int {
	n := 0
	for _, x := range s.receipts() {
		if x.At+x.Length <= place {
			n++
		}
	}
	return n
}

// goesOn looks whether a reel that was cut off is gone on with: behind the cut's records the others are added, and the bytes are those of a writer that was given just these.
func goesOn(t *testing.T, text string, s said, n int) {
	t.Helper()
	m := load(t, text)
	w, e := reel.Continue(m)
	part := said{label: s.label, texts: s.texts[:n:n]}
	if e != api.OK || w.Count() != n || string(m.Bytes()) != part.bytes() {
		t.Fatalf("cut at %d: %v, %q", len(text), e, m.Bytes())
	}
	more := []string{record("behind the cut"), record(saidLink(n, 0))}
	adds(t, m, w, more...)
	finishes(t, m, w)
	part.texts, part.finished = append(part.texts, more...), true
	if string(m.Bytes()) != part.bytes() {
		t.Fatalf("cut at %d: %q", len(text), m.Bytes())
	}
	opens(t, m)
}

// P16.2, T8: a finished reel whose records spell labels, links, indexes and feet, cut off at every place.
func TestP16_2CutAtEveryPlace(t *testing.T) {
	for _, l := range []api.Label{{Rate: 1}, {Title: "日 cut", Rate: 7, Start: 5183999}} {
		for n := range len(spelling()) + 1 {
			s := said{label: l, texts: spelling()[:n], finished: true}
			text := s.bytes()
			first := len(saidLabel(l))
			for at := range len(text) + 1 {
				m := load(t, text[:at])
				if at < first {
					if r, e := reel.Open(m); r != nil || e != api.ErrReelNone {
						t.Fatal(at, r, e)
					}
					if w, e := reel.Continue(m); w != nil || e != api.ErrReelNone || m.Size() != at {
						t.Fatal(at, w, e)
					}
					continue
				}
				count := whole(s, at)
				r, e := reel.Open(m)
				must(t, e, api.OK)
				tells(t, r, said{label: l, texts: s.texts[:count], finished: at == len(text)})
				if at < len(text) {
					goesOn(t, text[:at], s, count)
				} else if w, e := reel.Continue(m); w != nil || e != api.ErrReelDone {
					t.Fatal(w, e)
				}
			}
		}
	}
}

// P16.2: a reel that is not finished, cut off at each place, is never finished, whatever its last record spells.
func TestP16_2CutOfAReelThatIsNotFinished(t *testing.T) {
	s := said{label: api.Label{Title: "u", Rate: 3}}
	// This record's payload is the index and the foot that would be right, if the record's own link were none.
	first := len(saidLabel(s.label))
	s.texts = []string{record(saidIndex() + saidFoot(first))}
	s.texts = append(s.texts, record(said{label: s.label, texts: s.texts}.end()))
	text := s.bytes()
	for at := first; at <= len(text); at++ {
		r, e := reel.Open(load(t, text[:at]))
		must(t, e, api.OK)
		tells(t, r, said{label: s.label, texts: s.texts[:whole(s, at)]})
		goesOn(t, text[:at], s, whole(s, at))
	}
}

// P16.2, P16.4: a medium that dies in the midst of each write, and is gone on with, has in the end the bytes of one that never died.
func TestP16_4DeathsAndGoingOn(t *testing.T) {
	s := said{label: api.Label{Title: "deaths", Rate: 5, Start: 1}, texts: spelling(), finished: true}
	c := chance(164)
	for range 300 {
		m := load(t, saidLabel(s.label))
		deaths := 0
		for {
			m.Revive()
			w, e := reel.Continue(m)
			must(t, e, api.OK)
			must(t, m.Arm(1+c.below(4), c.below(200)), api.OK)
			if e := finishFrom(w, s.texts); e == api.OK {
				break
			} else if e != api.ErrMediumDead {
				t.Fatal(e)
			}
			refuses(t, m, w)
			if deaths++; deaths > 60 {
				m.Revive()
				break
			}
			// Where all of the index and the foot stayed, the reel is finished, though Finish told of a death.
			if string(m.Bytes()) == s.bytes() {
				break
			}
		}
		m.Revive()
		if deaths <= 60 && string(m.Bytes()) != s.bytes() {
			t.Fatalf("%d deaths: %q", deaths, m.Bytes())
		}
		opens(t, m)
	}
}

// finishFrom adds those records that the writer lacks, and finishes.
func finishFrom(w *reel.Writer, texts []string) api.Errno {
	for _, text := range texts[w.Count():] {
		if _, e := w.Add([]byte(text)); e != api.OK {
			return e
		}
	}
	_, e := w.Finish()
	return e
}
