package reel_test

import (
	"encoding/binary"
	"math"
	"strings"
	"testing"
	"unicode/utf8"

	"dailies/api"
	"dailies/medium"
	"dailies/picture"
	"dailies/reel"
)

// chance tells numbers that look as if by chance, the same ones each time.
type chance uint64

func (c *chance) below(n int) int {
	*c = *c*6364136223846793005 + 1442695040888963407
	return int(uint64(*c)>>33) % n
}

// some are so many bytes, as chance has them.
func (c *chance) some(n int) string {
	b := make([]byte, n)
	for i := range b {
		b[i] = byte(c.below(256))
	}
	return string(b)
}

// odd are numbers that are no record's.
func odd() []int {
	return []int{-1, -2, -16, math.MinInt32, -1 << 32, math.MinInt + 1, math.MinInt, 100000, 100001, 1<<31 - 1, 1 << 31, 1 << 32, 1<<32 + 1, 1 << 62, math.MaxInt - 16, math.MaxInt}
}

// sum is chapter 3's, bit by bit.
func sum(text string) string {
	state := ^uint32(0)
	for i := range len(text) {
		state ^= uint32(text[i]) << 24
		for range 8 {
			if fell := state>>31 == 1; fell {
				state = state<<1 ^ 0x04c11db7
			} else {
				state <<= 1
			}
		}
	}
	return four(int(^state))
}

// four is a number in four bytes, the highest first.
func four(n int) string { return string(binary.BigEndian.AppendUint32(nil, uint32(n))) }

// number is what four bytes stand for.
func number(text string) int { return int(binary.BigEndian.Uint32([]byte(text))) }

// withSum puts the sum behind.
func withSum(text string) string { return text + sum(text) }

func saidLabel(l api.Label) string {
	return withSum("REEL\x01" + string([]byte{byte(l.Rate), byte(len(l.Title))}) + l.Title + four(l.Start))
}

func saidLink(i, length int) string { return withSum("LINK" + four(i) + four(length)) }

func saidIndex(links ...int) string {
	text := "INDX" + four(len(links))
	for _, at := range links {
		text += four(at)
	}
	return withSum(text)
}

func saidFoot(at int) string { return withSum("FOOT" + four(at)) }

// said is a reel by the chapter's words, beside the program's.
type said struct {
	label    api.Label
	texts    []string
	finished bool
}

// body is the label and the records.
func (s said) body() string {
	text := saidLabel(s.label)
	for i, record := range s.texts {
		text += saidLink(i, len(record)) + record
	}
	return text
}

// end is the index and the foot.
func (s said) end() string {
	at := len(s.body())
	var links []int
	for _, x := range s.receipts() {
		links = append(links, x.At-16)
	}
	return saidIndex(links...) + saidFoot(at)
}

// bytes are all of it.
func (s said) bytes() string {
	if s.finished {
		return s.body() + s.end()
	}
	return s.body()
}

// receipts are those that Add must have told.
func (s said) receipts() []api.Receipt {
	var list []api.Receipt
	at := len(saidLabel(s.label))
	for i, record := range s.texts {
		list = append(list, api.Receipt{Number: i, At: at + 16, Length: len(record)})
		at += 16 + len(record)
	}
	return list
}

// understood is the reel that bytes are, by the chapter's words; false, if their label is none.
func understood(text string) (said, bool) {
	var s said
	if len(text) < 15 || text[:5] != "REEL\x01" || text[5] < 1 || text[5] > 7 || text[6] > 100 {
		return s, false
	}
	behind := 7 + int(text[6]) + 4
	if len(text) < behind+4 || text[behind:behind+4] != sum(text[:behind]) {
		return s, false
	}
	s.label = api.Label{Title: text[7 : behind-4], Rate: api.Rate(text[5]), Start: number(text[behind-4 : behind])}
	if !utf8.ValidString(s.label.Title) || s.label.Start > 5183999 {
		return said{}, false
	}
	rest := text[behind+4:]
	for len(s.texts) < 100000 {
		if len(rest) < 16 || rest[:4] != "LINK" || number(rest[4:8]) != len(s.texts) || rest[12:16] != sum(rest[:12]) {
			break
		}
		length := number(rest[8:12])
		if len(rest)-16 < length {
			break
		}
		s.texts = append(s.texts, rest[16:16+length])
		rest = rest[16+length:]
	}
	s.finished = rest == s.end()
	return s, true
}

// load is a medium that has these bytes.
func load(t *testing.T, text string) *medium.Medium {
	t.Helper()
	m, e := medium.Load([]byte(text))
	if e != api.OK {
		t.Fatal("Load:", e)
	}
	return m
}

// dead is a medium that has these bytes and is dead.
func dead(t *testing.T, text string) *medium.Medium {
	t.Helper()
	m := load(t, text)
	must(t, m.Arm(1, 0), api.OK)
	m.Append(nil)
	return m
}

// must looks whether an answer is the one that a test is made for.
func must(t *testing.T, e, want api.Errno) {
	t.Helper()
	if e != want {
		t.Fatal(e, "and not", want)
	}
}

// opens opens a medium and holds all that the reel tells against what the chapter says of its bytes.
func opens(t *testing.T, m *medium.Medium) (*reel.Reel, said) {
	t.Helper()
	text := string(m.Bytes())
	want, is := understood(text)
	r, e := reel.Open(m)
	if !is {
		if r != nil || e != api.ErrReelNone {
			t.Fatalf("no label: %v, %v", r, e)
		}
		return nil, want
	}
	if e != api.OK {
		t.Fatalf("Open: %v", e)
	}
	tells(t, r, want)
	if string(m.Bytes()) != text {
		t.Fatal("Open wrote")
	}
	return r, want
}

// tells looks whether a reel whose medium is as it was tells just this.
func tells(t *testing.T, r *reel.Reel, want said) {
	t.Helper()
	if r.Label() != want.label || r.Count() != len(want.texts) || r.Finished() != want.finished {
		t.Fatalf("%+v, %d records, finished %v; not %+v, %d, %v", r.Label(), r.Count(), r.Finished(), want.label, len(want.texts), want.finished)
	}
	list := want.receipts()
	for i, text := range want.texts {
		x, e := r.Receipt(i)
		if x != list[i] || e != api.OK {
			t.Fatalf("Receipt(%d): %+v, %v; not %+v", i, x, e, list[i])
		}
		src, e := r.Record(i)
		if e != api.OK {
			t.Fatalf("Record(%d): %v", i, e)
		}
		same(t, src, text)
	}
	n := 0
	for x, src := range r.All() {
		if n == len(list) || x != list[n] {
			t.Fatalf("All: %+v at %d", x, n)
		}
		same(t, src, want.texts[n])
		n++
	}
	if n != len(list) {
		t.Fatal("All told", n, "of", len(list))
	}
	for _, i := range append(odd(), r.Count(), r.Count()+1) {
		refusesRecord(t, r, i)
	}
}

// refusesRecord looks whether there is no such record.
func refusesRecord(t *testing.T, r *reel.Reel, i int) {
	t.Helper()
	if i >= 0 && i < r.Count() {
		return
	}
	if x, e := r.Receipt(i); x != (api.Receipt{}) || e != api.ErrReelNone {
		t.Fatalf("Receipt(%d): %+v, %v", i, x, e)
	}
	if src, e := r.Record(i); src != nil || e != api.ErrReelNone {
		t.Fatalf("Record(%d): %v, %v", i, src, e)
	}
}

// same looks whether a source has just these bytes.
func same(t *testing.T, src api.Source, text string) {
	t.Helper()
	if src.Size() != len(text) {
		t.Fatalf("a source of %d bytes, not %d", src.Size(), len(text))
	}
	if b, e := src.Read(0, len(text)); e != api.OK || string(b) != text {
		t.Fatalf("a source tells %q, %v; not %q", b, e, text)
	}
}

// record is one of a small frame, whose one payload is this.
func record(payload string) string {
	s := api.Shape{Width: 4, Height: 3, Depth: 10}
	b, e := picture.Assemble(s, api.Config{SliceW: 16, SliceH: 16, Ladder: []api.Rung{{}}}, api.Rung{}, [][]byte{[]byte(payload)})
	if e != api.OK {
		panic(e)
	}
	return string(b)
}

// created is a writer on a new medium.
func created(t *testing.T, l api.Label) (*medium.Medium, *reel.Writer) {
	t.Helper()
	m := medium.New()
	w, e := reel.Create(m, l)
	if w == nil || e != api.OK {
		t.Fatal("Create:", w, e)
	}
	return m, w
}

// adds lays records down and looks at their receipts.
func adds(t *testing.T, m *medium.Medium, w *reel.Writer, texts ...string) {
	t.Helper()
	for _, text := range texts {
		want := api.Receipt{Number: w.Count(), At: m.Size() + 16, Length: len(text)}
		x, e := w.Add([]byte(text))
		if x != want || e != api.OK {
			t.Fatalf("Add: %+v, %v; not %+v", x, e, want)
		}
	}
}

// finishes ends a reel and looks at the receipt.
func finishes(t *testing.T, m *medium.Medium, w *reel.Writer) {
	t.Helper()
	want := api.Receipt{Number: w.Count(), At: m.Size(), Length: 24 + 4*w.Count()}
	if x, e := w.Finish(); x != want || e != api.OK {
		t.Fatalf("Finish: %+v, %v; not %+v", x, e, want)
	}
}

// refuses looks whether a writer takes nothing any more, and leaves the medium as it is.
func refuses(t *testing.T, m *medium.Medium, w *reel.Writer) {
	t.Helper()
	text, n := string(m.Bytes()), w.Count()
	for _, b := range []string{"", record(""), strings.Repeat("x", 40)} {
		if x, e := w.Add([]byte(b)); x != (api.Receipt{}) || e != api.ErrReelDone {
			t.Fatalf("Add: %+v, %v", x, e)
		}
	}
	if x, e := w.Finish(); x != (api.Receipt{}) || e != api.ErrReelDone {
		t.Fatalf("Finish: %+v, %v", x, e)
	}
	if w.Count() != n || string(m.Bytes()) != text {
		t.Fatal("refused, and changed something")
	}
}

// spelling are records whose payloads look like what stands between records.
func spelling() []string {
	plain := record("")
	s := said{label: api.Label{Title: "within", Rate: 3, Start: 7}, texts: []string{plain, plain}, finished: true}
	return []string{
		plain,
		record(saidLink(1, 0) + saidLink(2, 4) + "....."),
		record(saidLink(2, 44) + plain + saidLink(3, 44) + plain),
		record(s.bytes()),
		record(s.end()),
		record(saidIndex() + saidFoot(23)),
		record("LINK"),
	}
}
