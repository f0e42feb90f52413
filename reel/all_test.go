package reel_test

import (
	"slices"
	"testing"

	"dailies/api"
	"dailies/medium"
	"dailies/reel"
)

// numbers are those of the records that are told, up to so many.
func numbers(seq func(func(api.Receipt, api.Source) bool), most int) []int {
	var list []int
	for x := range seq {
		if len(list) == most {
			break
		}
		list = append(list, x.Number)
	}
	return list
}

// seven is a reel of seven records.
func seven(t *testing.T) (*medium.Medium, *reel.Reel, said) {
	t.Helper()
	s := said{label: api.Label{Title: "seven", Rate: 2}, texts: spelling()}
	m := load(t, s.bytes())
	r, e := reel.Open(m)
	must(t, e, api.OK)
	return m, r, s
}

// R7, P6: All may be left early, ranged over again, and ranged over within its own loop.
func TestR7AllIsRangedOver(t *testing.T) {
	_, r, s := seven(t)
	all := r.All()
	for most := range 9 {
		if n := len(numbers(all, most)); n != min(most, 7) {
			t.Fatal(most, n)
		}
	}
	within := 0
	for x, src := range all {
		same(t, src, s.texts[x.Number])
		for y, src := range all {
			same(t, src, s.texts[y.Number])
			if y.Number > x.Number {
				break
			}
			within++
		}
		if got := numbers(all, 99); !slices.Equal(got, []int{0, 1, 2, 3, 4, 5, 6}) {
			t.Fatal(got)
		}
	}
	if within != 1+2+3+4+5+6+7 {
		t.Fatal(within)
	}
	for range all {
		return
	}
	t.Fatal("nothing was told")
}

// R7: a loop that is left asks for no more.
func TestR7AllEndsWhereItIsLeft(t *testing.T) {
	_, r, _ := seven(t)
	for most := 1; most <= 7; most++ {
		told := 0
		r.All()(func(x api.Receipt, src api.Source) bool {
			if x.Number != told {
				t.Fatal(x)
			}
			told++
			return told < most
		})
		if told != most {
			t.Fatal(told, most)
		}
	}
}

// R7, P6: the records are those that there were when All was called, and so are their sources, though the medium is cut off since, or grows.
func TestR7AllTellsWhatThereWasWhenItWasCalled(t *testing.T) {
	m, r, s := seven(t)
	all := r.All()
	third := s.receipts()[2]
	must(t, m.Truncate(third.At+third.Length), api.OK)
	if got := numbers(all, 99); !slices.Equal(got, []int{0, 1, 2, 3, 4, 5, 6}) {
		t.Fatal(got)
	}
	for x, src := range all {
		if src.Size() != len(s.texts[x.Number]) {
			t.Fatal(x)
		}
		if x.Number <= 2 {
			same(t, src, s.texts[x.Number])
		} else if _, e := src.Read(0, 1); e != api.ErrMediumRange {
			t.Fatal(x, e)
		}
	}
	// Called now, it leaves out what Record refuses.
	some := r.All()
	if got := numbers(some, 99); !slices.Equal(got, []int{0, 1, 2}) {
		t.Fatal(got)
	}
	w, e := reel.Continue(m)
	must(t, e, api.OK)
	adds(t, m, w, s.texts[3:]...)
	if got := numbers(some, 99); !slices.Equal(got, []int{0, 1, 2}) {
		t.Fatal(got)
	}
	// The medium has these bytes again, and so have the sources of the first call, and those of a new one.
	for _, seq := range []func(func(api.Receipt, api.Source) bool){all, r.All()} {
		n := 0
		for x, src := range seq {
			same(t, src, s.texts[x.Number])
			n++
		}
		if n != 7 {
			t.Fatal(n)
		}
	}
}

// R7: a record in the midst of which the medium was cut off is left out; those ahead are told.
func TestR7AllLeavesOutWhatRecordRefuses(t *testing.T) {
	for cut := range len((said{label: api.Label{Title: "seven", Rate: 2}, texts: spelling()}).bytes()) {
		m, r, s := seven(t)
		must(t, m.Truncate(cut), api.OK)
		var want []int
		for i, x := range s.receipts() {
			if x.At+x.Length <= cut {
				want = append(want, i)
			}
			src, e := r.Record(i)
			if taken := x.At+x.Length <= cut; taken != (e == api.OK) || taken != (src != nil) || !taken && e != api.ErrMediumRange {
				t.Fatal(cut, i, e)
			}
		}
		if got := numbers(r.All(), 99); !slices.Equal(got, want) {
			t.Fatal(cut, got, want)
		}
	}
}

// R7: of a dead medium all records can be had; of a reel without records none is told, and the iterator is not nil.
func TestR7AllOfADeadMediumAndOfNone(t *testing.T) {
	m, r, _ := seven(t)
	must(t, m.Arm(1, 0), api.OK)
	m.Append(nil)
	n := 0
	for _, src := range r.All() {
		if _, e := src.Read(0, 1); e != api.ErrMediumDead {
			t.Fatal(e)
		}
		n++
	}
	if n != 7 {
		t.Fatal(n)
	}
	empty, e := reel.Open(load(t, saidLabel(api.Label{Rate: 1})))
	must(t, e, api.OK)
	all := empty.All()
	if all == nil {
		t.Fatal("nil")
	}
	for range all {
		t.Fatal("a record of none")
	}
}

// R7: neither All nor Record reads.
func TestR7AllReadsNothing(t *testing.T) {
	m, r, _ := seven(t)
	m.Forget()
	for range r.All() {
	}
	for i := range 7 {
		r.Record(i)
	}
	if l := m.Log(); len(l) != 0 {
		t.Fatal(l)
	}
}
