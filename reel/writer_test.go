package reel_test

import (
	"strings"
	"testing"

	"dailies/api"
	"dailies/medium"
	"dailies/reel"
)

// noRecords are bytes that are none: too short, a head that is refused, a length that is another one.
func noRecords() []string {
	good := record("payload")
	list := []string{"", "D", good[:31], good[:32], good[:33], good[:43], good[:44], good[:len(good)-1], good + "x", good + good,
		strings.Repeat("\x00", 31), strings.Repeat("\x00", 32), strings.Repeat("\xff", 200), saidLink(0, 0) + saidLink(1, 0), "x" + good}
	for at := range 32 {
		list = append(list, good[:at]+string([]byte{good[at] ^ 1})+good[at+1:], good[:at]+string([]byte{good[at] ^ 128})+good[at+1:])
	}
	return list
}

// R3: what is no record is refused; nothing is laid down, and the writer goes on.
func TestR3AddRefusesWhatIsNoRecord(t *testing.T) {
	l := api.Label{Title: "none", Rate: 1}
	m, w := created(t, l)
	for _, text := range noRecords() {
		if x, e := w.Add([]byte(text)); x != (api.Receipt{}) || e != api.ErrReelRecord {
			t.Fatalf("%q: %+v, %v", text, x, e)
		}
		if w.Count() != 0 || string(m.Bytes()) != saidLabel(l) {
			t.Fatal("refused, and changed something")
		}
	}
	if x, e := w.Add(nil); x != (api.Receipt{}) || e != api.ErrReelRecord {
		t.Fatal(x, e)
	}
	adds(t, m, w, record("payload"))
	for _, text := range noRecords() {
		if _, e := w.Add([]byte(text)); e != api.ErrReelRecord {
			t.Fatalf("%q: %v", text, e)
		}
	}
	adds(t, m, w, record(""))
	if w.Count() != 2 || string(m.Bytes()) != (said{label: l, texts: []string{record("payload"), record("")}}).bytes() {
		t.Fatalf("%q", m.Bytes())
	}
}

// R3: no byte behind the head is looked at.
func TestR3AddLooksAtTheHeadAlone(t *testing.T) {
	l := api.Label{Rate: 1}
	m, w := created(t, l)
	want := said{label: l}
	good := record(saidLink(1, 5))
	for _, behind := range []string{strings.Repeat("\x00", len(good)-32), strings.Repeat("\xff", len(good)-32), (saidLink(0, 0) + saidLink(1, 0))[:len(good)-32]} {
		text := good[:32] + behind
		adds(t, m, w, text)
		want.texts = append(want.texts, text)
	}
	opens(t, m)
	if string(m.Bytes()) != want.bytes() {
		t.Fatalf("%q", m.Bytes())
	}
}

// R3, R4: what stands on the medium behind each call is just what the chapter's bytes are.
func TestR3AddLaysLinkAndRecordDown(t *testing.T) {
	s := said{label: api.Label{Title: "Day Two", Rate: 4, Start: 50}}
	m, w := created(t, s.label)
	for _, text := range spelling() {
		adds(t, m, w, text)
		s.texts = append(s.texts, text)
		if string(m.Bytes()) != s.bytes() || w.Count() != len(s.texts) {
			t.Fatalf("%d: %q", w.Count(), m.Bytes())
		}
		opens(t, m)
	}
	finishes(t, m, w)
	s.finished = true
	if string(m.Bytes()) != s.bytes() || w.Count() != len(s.texts) || len(m.Log()) == 0 {
		t.Fatalf("%q", m.Bytes())
	}
	if r, _ := opens(t, m); !r.Finished() {
		t.Fatal("not finished")
	}
	refuses(t, m, w)
}

// R4: a reel without records may be finished.
func TestR4FinishWithoutRecords(t *testing.T) {
	s := said{label: api.Label{Title: "a", Rate: 2}, finished: true}
	m, w := created(t, s.label)
	finishes(t, m, w)
	if string(m.Bytes()) != s.bytes() || w.Count() != 0 {
		t.Fatalf("%q", m.Bytes())
	}
	opens(t, m)
	refuses(t, m, w)
}

// writes makes a reel of these records up to the first refusal; which call was refused (0: Create), and with what.
func writes(m *medium.Medium, s said) (*reel.Writer, int, api.Errno) {
	w, e := reel.Create(m, s.label)
	if e != api.OK {
		return nil, 0, e
	}
	for i, text := range s.texts {
		if _, e := w.Add([]byte(text)); e != api.OK {
			return w, i + 1, e
		}
	}
	if s.finished {
		if _, e := w.Finish(); e != api.OK {
			return w, len(s.texts) + 1, e
		}
	}
	return w, -1, api.OK
}

// R1, R3, R4: each thing is one Append: as many Appends as there are calls, and one that dies keeps a beginning of just that thing.
func TestR3EachThingIsOneAppend(t *testing.T) {
	s := said{label: api.Label{Title: "one", Rate: 6}, texts: spelling()[:3], finished: true}
	whole := s.bytes()
	var starts []int // where each Append begins
	for i := range len(s.texts) + 1 {
		starts = append(starts, len(said{label: s.label, texts: s.texts[:i]}.bytes()))
	}
	starts = append([]int{0}, starts...)
	for n, from := range starts {
		for keep := range len(whole) - from + 3 {
			m := medium.New()
			must(t, m.Arm(n+1, keep), api.OK)
			w, call, e := writes(m, s)
			if e != api.ErrMediumDead || call != n || !m.Dead() {
				t.Fatal(n, keep, call, e)
			}
			to := len(whole)
			if n+1 < len(starts) {
				to = starts[n+1]
			}
			if string(m.Bytes()) != whole[:min(from+keep, to)] {
				t.Fatalf("%d, %d: %q", n, keep, m.Bytes())
			}
			if w != nil {
				m.Revive()
				refuses(t, m, w)
				if w.Count() != n-1 {
					t.Fatal(n, w.Count())
				}
			}
		}
	}
	m := medium.New()
	must(t, m.Arm(len(starts)+1, 0), api.OK)
	if _, call, e := writes(m, s); e != api.OK || m.Dead() {
		t.Fatal(call, e)
	}
	if _, e := m.Append(nil); e != api.ErrMediumDead {
		t.Fatal("more Appends than calls, or fewer")
	}
}

// R3, R4: a writer whose medium refuses tells the medium's error once, and is given up, though the medium lives again.
func TestR3AWriterIsGivenUp(t *testing.T) {
	for _, call := range []func(w *reel.Writer) (api.Receipt, api.Errno){
		func(w *reel.Writer) (api.Receipt, api.Errno) { return w.Add([]byte(record("x"))) },
		(*reel.Writer).Finish,
	} {
		m, w := created(t, api.Label{Title: "up", Rate: 3})
		adds(t, m, w, record("1"), record("2"))
		text := string(m.Bytes())
		must(t, m.Arm(1, 0), api.OK)
		if x, e := call(w); x != (api.Receipt{}) || e != api.ErrMediumDead {
			t.Fatal(x, e)
		}
		refuses(t, m, w)
		m.Revive()
		refuses(t, m, w)
		if w.Count() != 2 || string(m.Bytes()) != text {
			t.Fatal(w.Count())
		}
		// A medium that was dead already refuses as well.
		m, w = created(t, api.Label{Rate: 3})
		must(t, m.Arm(1, 0), api.OK)
		m.Append(nil)
		if x, e := call(w); x != (api.Receipt{}) || e != api.ErrMediumDead || w.Count() != 0 {
			t.Fatal(x, e)
		}
		m.Revive()
		refuses(t, m, w)
	}
}

// R3, P2: that the writer is done is told ahead of the record, and the record ahead of the medium; what is refused so gives nothing up.
func TestR3AddNamesTheFirstError(t *testing.T) {
	m, w := created(t, api.Label{Rate: 3})
	must(t, m.Arm(1, 0), api.OK)
	m.Append(nil)
	if _, e := w.Add(make([]byte, 32)); e != api.ErrReelRecord {
		t.Fatal(e)
	}
	m.Revive()
	adds(t, m, w, record(""))
	finishes(t, m, w)
	must(t, m.Arm(1, 0), api.OK)
	m.Append(nil)
	refuses(t, m, w)
}

// R2: Continue finds the records, cuts what stands behind them, and reads on; of a reel with nothing behind it nothing changes.
func TestR2Continue(t *testing.T) {
	s := said{label: api.Label{Title: "on", Rate: 2, Start: 3}, texts: spelling()}
	for n := range len(s.texts) + 1 {
		part := said{label: s.label, texts: s.texts[:n]}
		for _, behind := range []string{"", "x", "LINK", saidLink(n, 1), saidLink(n+1, 0), saidLink(n, 45) + record(""), part.end()[:len(part.end())-1], part.end() + "x", part.end() + part.end(), strings.Repeat("\x00", 100)} {
			m := load(t, part.bytes()+behind)
			w, e := reel.Continue(m)
			if e != api.OK || w.Count() != n || string(m.Bytes()) != part.bytes() {
				t.Fatalf("%d, %q: %v, %q", n, behind, e, m.Bytes())
			}
			adds(t, m, w, s.texts[n:]...)
			finishes(t, m, w)
			if want := (said{label: s.label, texts: s.texts, finished: true}).bytes(); string(m.Bytes()) != want {
				t.Fatalf("%d, %q: %q", n, behind, m.Bytes())
			}
			refuses(t, m, w)
		}
	}
}

// R2: a finished reel is not gone on with; nothing of it changes.
func TestR2ContinueRefusesWhatIsFinished(t *testing.T) {
	for n := range 4 {
		text := said{label: api.Label{Rate: 1}, texts: spelling()[:n], finished: true}.bytes()
		m := load(t, text)
		if w, e := reel.Continue(m); w != nil || e != api.ErrReelDone || string(m.Bytes()) != text {
			t.Fatal(n, w, e)
		}
	}
}

// R2: Continue appends nothing, so that an armed medium stays so.
func TestR2ContinueIsNoAppend(t *testing.T) {
	m := load(t, said{label: api.Label{Rate: 1}, texts: spelling()[:2]}.bytes()+"behind")
	must(t, m.Arm(2, 0), api.OK)
	w, e := reel.Continue(m)
	must(t, e, api.OK)
	adds(t, m, w, record("a"))
	if _, e := w.Add([]byte(record("b"))); e != api.ErrMediumDead {
		t.Fatal(e)
	}
}

// The chapter's examples.
func TestExamples(t *testing.T) {
	l := api.Label{Title: "a", Rate: 2}
	m, w := created(t, l)
	if string(m.Bytes()) != string([]byte{82, 69, 69, 76, 1, 2, 1, 97, 0, 0, 0, 0})+sum("REEL\x01\x02\x01a\x00\x00\x00\x00") {
		t.Errorf("%q", m.Bytes())
	}
	if w, e := reel.Create(m, l); w != nil || e != api.ErrReelThere {
		t.Error(w, e)
	}
	if r, e := reel.Open(m); e != api.OK || r.Count() != 0 || r.Finished() {
		t.Error(e)
	}
	other, _ := medium.Load(m.Bytes())
	v, e := reel.Continue(other)
	must(t, e, api.OK)
	if x, e := v.Finish(); x != (api.Receipt{Number: 0, At: 16, Length: 24}) || e != api.OK {
		t.Error(x, e)
	}
	if string(other.Bytes()[16:]) != saidIndex()+saidFoot(16) {
		t.Errorf("%q", other.Bytes())
	}
	if x, e := w.Add(make([]byte, 31)); x != (api.Receipt{}) || e != api.ErrReelRecord {
		t.Error(x, e)
	}
	b := record("example")
	if x, e := w.Add([]byte(b)); x != (api.Receipt{Number: 0, At: 32, Length: len(b)}) || e != api.OK {
		t.Error(x, e)
	}
	if x, e := w.Add([]byte(b)); x.At != 32+len(b)+16 || e != api.OK || string(m.Bytes()[32+len(b):][:4]) != "LINK" {
		t.Error(x, e)
	}
	for _, text := range []string{"", "REEL"} {
		if r, e := reel.Open(load(t, text)); r != nil || e != api.ErrReelNone {
			t.Error(r, e)
		}
	}
	if r, e := reel.Open(nil); r != nil || e != api.ErrArg {
		t.Error(r, e)
	}
}
