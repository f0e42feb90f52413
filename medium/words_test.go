package medium_test

import (
	"bytes"
	"math"
	"math/big"
	"slices"
	"testing"

	"dailies/api"
	"dailies/medium"
)

// chance tells numbers that look as if by chance, the same ones each time.
type chance uint64

func (c *chance) below(n int) int {
	*c = *c*6364136223846793005 + 1442695040888963407
	return int(uint64(*c)>>33) % n
}

// some are so many bytes, as chance has them.
func (c *chance) some(n int) []byte {
	b := make([]byte, n)
	for i := range b {
		b[i] = byte(c.below(256))
	}
	return b
}

// below are numbers below 0; two of them together may go round to 0 or more.
func below() []int {
	return []int{-1, -2, -3, -1 << 28, math.MinInt32, -1 << 32, -1 << 62, math.MinInt + 1, math.MinInt}
}

// huge are numbers that no medium has; two of them together may go round to few.
func huge() []int {
	return []int{1<<28 + 1, 1<<31 - 1, 1 << 31, 1<<32 - 1, 1 << 32, 1<<32 + 1, 1 << 62, math.MaxInt - 5, math.MaxInt - 1, math.MaxInt}
}

// odd are both.
func odd() []int { return slices.Concat(below(), huge()) }

// lies is the chapter's word, by numbers that never go round.
func lies(at, n, size int) bool {
	sum := new(big.Int).Add(big.NewInt(int64(at)), big.NewInt(int64(n)))
	return at >= 0 && n >= 0 && sum.Cmp(big.NewInt(int64(size))) <= 0
}

// said is a medium by the chapter's words, beside the program's.
type said struct {
	bytes         string
	dead, armed   bool
	appends, keep int
	log           []api.Span
}

// read is what Read of a part must answer, and has the log grow.
func (s *said) read(part api.Span, at, n int) (string, api.Errno) {
	if s.dead {
		return "", api.ErrMediumDead
	}
	if !lies(at, n, part.Length) || !lies(part.At+at, n, len(s.bytes)) {
		return "", api.ErrMediumRange
	}
	s.log = append(s.log, api.Span{At: part.At + at, Length: n})
	return s.bytes[part.At+at:][:n], api.OK
}

func (s *said) append(b string) (int, api.Errno) {
	switch {
	case s.dead:
		return 0, api.ErrMediumDead
	case len(s.bytes)+len(b) > 268435456:
		return 0, api.ErrMediumFull
	case s.armed && s.appends == 1:
		if s.keep < len(b) {
			b = b[:s.keep]
		}
		s.bytes, s.dead, s.armed = s.bytes+b, true, false
		return 0, api.ErrMediumDead
	case s.armed:
		s.appends--
	}
	at := len(s.bytes)
	s.bytes += b
	return at, api.OK
}

func (s *said) arm(n, keep int) api.Errno {
	switch {
	case s.dead:
		return api.ErrMediumDead
	case n < 0 || keep < 0:
		return api.ErrArg
	case n == 0:
		s.armed = false
	default:
		s.armed, s.appends, s.keep = true, n, keep
	}
	return api.OK
}

func (s *said) revive() { s.dead, s.armed = false, false }

func (s *said) overwrite(at int, b string) api.Errno {
	if !lies(at, len(b), len(s.bytes)) {
		return api.ErrMediumRange
	}
	s.bytes = s.bytes[:at] + b + s.bytes[at+len(b):]
	return api.OK
}

func (s *said) truncate(n int) api.Errno {
	if n < 0 || n > len(s.bytes) {
		return api.ErrMediumRange
	}
	s.bytes = s.bytes[:n]
	return api.OK
}

// pair is a medium, and what the chapter says of it. Each of its methods makes one call and holds the answer against that.
type pair struct {
	*testing.T
	m *medium.Medium
	s *said
}

// loaded is a medium that has these bytes.
func loaded(t *testing.T, b string) *pair {
	t.Helper()
	m, e := medium.Load([]byte(b))
	if m == nil || e != api.OK {
		t.Fatal("Load:", m, e)
	}
	return &pair{t, m, &said{bytes: b}}
}

// died is a medium that has these bytes and is dead.
func died(t *testing.T, b string) *pair {
	t.Helper()
	p := loaded(t, b)
	p.arm(1, 0)
	p.append("")
	if !p.m.Dead() {
		t.Fatal("it lives")
	}
	return p
}

// stands looks whether all that can be asked of the medium is as the chapter says.
func (p *pair) stands() {
	p.Helper()
	if n := p.m.Size(); n != len(p.s.bytes) {
		p.Fatalf("Size: %d, not %d", n, len(p.s.bytes))
	}
	if b := p.m.Bytes(); string(b) != p.s.bytes {
		p.Fatalf("Bytes: %q, not %q", b, p.s.bytes)
	}
	if p.m.Dead() != p.s.dead {
		p.Fatal("Dead:", p.m.Dead())
	}
	if l := p.m.Log(); !slices.Equal(l, p.s.log) {
		p.Fatalf("Log: %v, not %v", l, p.s.log)
	}
}

func (p *pair) read(at, n int) api.Errno {
	p.Helper()
	want, errno := p.s.read(api.Span{Length: len(p.s.bytes)}, at, n)
	b, e := p.m.Read(at, n)
	if string(b) != want || e != errno {
		p.Fatalf("Read(%d, %d): %q, %v; not %q, %v", at, n, b, e, want, errno)
	}
	p.stands()
	return e
}

func (p *pair) append(b string) api.Errno {
	p.Helper()
	want, errno := p.s.append(b)
	at, e := p.m.Append([]byte(b))
	if at != want || e != errno {
		p.Fatalf("Append(%q): %d, %v; not %d, %v", b, at, e, want, errno)
	}
	p.stands()
	return e
}

func (p *pair) arm(n, keep int) api.Errno {
	p.Helper()
	want := p.s.arm(n, keep)
	if e := p.m.Arm(n, keep); e != want {
		p.Fatalf("Arm(%d, %d): %v, not %v", n, keep, e, want)
	}
	p.stands()
	return want
}

func (p *pair) revive() {
	p.Helper()
	p.s.revive()
	p.m.Revive()
	p.stands()
}

func (p *pair) overwrite(at int, b string) api.Errno {
	p.Helper()
	want := p.s.overwrite(at, b)
	if e := p.m.Overwrite(at, []byte(b)); e != want {
		p.Fatalf("Overwrite(%d, %q): %v, not %v", at, b, e, want)
	}
	p.stands()
	return want
}

func (p *pair) truncate(n int) api.Errno {
	p.Helper()
	want := p.s.truncate(n)
	if e := p.m.Truncate(n); e != want {
		p.Fatalf("Truncate(%d): %v, not %v", n, e, want)
	}
	p.stands()
	return want
}

func (p *pair) forget() {
	p.Helper()
	p.s.log = nil
	p.m.Forget()
	p.stands()
}

// part is a source of a medium, and the span that it was asked by.
type part struct {
	*pair
	src  api.Source
	span api.Span
}

// piece is a piece; nil, if it must be refused.
func (p *pair) piece(at, n int) *part {
	p.Helper()
	want := api.OK
	if !lies(at, n, len(p.s.bytes)) {
		want = api.ErrMediumRange
	}
	src, e := p.m.Piece(api.Span{At: at, Length: n})
	if e != want || (src == nil) != (e != api.OK) {
		p.Fatalf("Piece({%d, %d}): %v, %v, not %v", at, n, src, e, want)
	}
	p.stands()
	if e != api.OK {
		return nil
	}
	return &part{p, src, api.Span{At: at, Length: n}}
}

// read reads of the piece.
func (x *part) read(at, n int) api.Errno {
	x.Helper()
	want, errno := x.s.read(x.span, at, n)
	b, e := x.src.Read(at, n)
	if string(b) != want || e != errno {
		x.Fatalf("the piece %v: Read(%d, %d): %q, %v; not %q, %v", x.span, at, n, b, e, want, errno)
	}
	if x.src.Size() != x.span.Length {
		x.Fatalf("the piece %v: Size %d", x.span, x.src.Size())
	}
	x.stands()
	return e
}

// letters are so many bytes that tell their places.
func letters(n int) string {
	var b bytes.Buffer
	for i := range n {
		b.WriteByte(byte('a' + i%26))
	}
	return b.String()
}

// must looks whether an answer is the one that a test is made for.
func must(t *testing.T, e, want api.Errno) {
	t.Helper()
	if e != want {
		t.Fatal(e, "and not", want)
	}
}
