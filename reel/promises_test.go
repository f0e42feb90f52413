package reel_test

import (
	"sync"
	"testing"

	"dailies/api"
	"dailies/reel"
)

// P16.1: what a writer has made, opened, is its label and its records, byte for byte, with the receipts that Add told.
func TestP16_1WhatAWriterHasMade(t *testing.T) {
	c := chance(161)
	titles := titlesThatMayBe()
	for range 120 {
		s := said{label: api.Label{Title: titles[c.below(len(titles))], Rate: api.Rate(1 + c.below(7)), Start: c.below(5184000)}}
		m, w := created(t, s.label)
		var list []api.Receipt
		for range c.below(12) {
			text := record(c.some(c.below(120)))
			if c.below(3) == 0 {
				text = spelling()[c.below(7)]
			}
			x, e := w.Add([]byte(text))
			must(t, e, api.OK)
			list = append(list, x)
			s.texts = append(s.texts, text)
		}
		if c.below(2) == 0 {
			finishes(t, m, w)
			s.finished = true
		}
		r, e := reel.Open(m)
		must(t, e, api.OK)
		tells(t, r, s)
		for i, x := range list {
			if y, e := r.Receipt(i); x != y || e != api.OK {
				t.Fatal(i, x, y, e)
			}
		}
		if !s.finished {
			continue
		}
		// Something behind the foot, be it one byte, and it is not finished.
		m.Append([]byte{byte(c.below(256))})
		r, e = reel.Open(m)
		must(t, e, api.OK)
		s.finished = false
		tells(t, r, s)
	}
}

// P16.4: writers that were given the same labels and records have made the same bytes; so has one that was cut off at any place, and gone on with.
func TestP16_4TheSameBytes(t *testing.T) {
	s := said{label: api.Label{Title: "same", Rate: 4, Start: 11}, texts: spelling()[:5], finished: true}
	m, w := created(t, s.label)
	must(t, finishFrom(w, s.texts), api.OK)
	one := string(m.Bytes())
	m, w = created(t, s.label)
	for _, text := range s.texts {
		w.Add([]byte("no record"))
		adds(t, m, w, text)
		reel.Open(m)
	}
	finishes(t, m, w)
	if string(m.Bytes()) != one || one != s.bytes() {
		t.Fatal("other bytes")
	}
	for cut := len(saidLabel(s.label)); cut < len(one); cut++ {
		m := load(t, one[:cut])
		w, e := reel.Continue(m)
		must(t, e, api.OK)
		must(t, finishFrom(w, s.texts), api.OK)
		if string(m.Bytes()) != one {
			t.Fatal(cut)
		}
	}
}

// P16.2, P16.4: cut off again and again, at places that chance has, and gone on with each time.
func TestP16_4CutAgainAndAgain(t *testing.T) {
	c := chance(1642)
	for range 40 {
		s := said{label: api.Label{Title: "again", Rate: 1}}
		m, w := created(t, s.label)
		for range 40 {
			text := record(c.some(c.below(40)))
			adds(t, m, w, text)
			s.texts = append(s.texts, text)
			if c.below(6) == 0 {
				finishes(t, m, w)
			}
			if c.below(4) > 0 && m.Size() == len(s.bytes()) {
				continue
			}
			first := len(saidLabel(s.label))
			cut := first + c.below(m.Size()-first)
			s.texts = s.texts[:whole(s, cut)]
			must(t, m.Truncate(cut), api.OK)
			r, e := reel.Open(m)
			must(t, e, api.OK)
			tells(t, r, s)
			w, e = reel.Continue(m)
			if e != api.OK || w.Count() != len(s.texts) || string(m.Bytes()) != s.bytes() {
				t.Fatal(e, w.Count())
			}
		}
	}
}

// P4: reels of one medium may be opened and read by several goroutines at once.
func TestP4SeveralHandsRead(t *testing.T) {
	s := three()
	m := load(t, s.bytes())
	shared, e := reel.Open(m)
	must(t, e, api.OK)
	wrong := make([]string, 8)
	var all sync.WaitGroup
	for hand := range wrong {
		all.Go(func() {
			for range 50 {
				own, e := reel.Open(m)
				if e != api.OK || own.Count() != 3 || !own.Finished() {
					wrong[hand] = "opened otherwise"
					return
				}
				for _, r := range []*reel.Reel{own, shared} {
					for x, src := range r.All() {
						if b, e := src.Read(0, x.Length); e != api.OK || string(b) != s.texts[x.Number] {
							wrong[hand] = "read otherwise"
							return
						}
					}
				}
			}
		})
	}
	all.Wait()
	for hand, text := range wrong {
		if text != "" {
			t.Error(hand, text)
		}
	}
}

// R5: a medium that dies while it is opened gives no part of a reel: all of it, or the medium's error.
func TestR5OpenWhileTheMediumDies(t *testing.T) {
	s := said{label: api.Label{Title: "dies", Rate: 1}, texts: spelling(), finished: true}
	m := load(t, s.bytes())
	stop := make(chan struct{})
	var all sync.WaitGroup
	all.Go(func() {
		for {
			select {
			case <-stop:
				return
			default:
				m.Arm(1, 0)
				m.Append(nil)
				m.Revive()
			}
		}
	})
	for range 3000 {
		r, e := reel.Open(m)
		if e == api.ErrMediumDead && r == nil {
			continue
		}
		if e != api.OK || r.Count() != len(s.texts) || !r.Finished() {
			t.Error(r, e)
			break
		}
	}
	close(stop)
	all.Wait()
}
