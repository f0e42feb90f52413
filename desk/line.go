package desk

import (
	"strconv"
	"strings"

	"dailies/api"
)

// line is the fields that were not read yet.
type line struct {
	fields []string
	amiss  bool // a name was read that is not there, or is there already, or for which there is no room
}

// fieldsOf are what stands between blanks.
func fieldsOf(s string) []string {
	var fields []string
	for _, field := range strings.Split(s, " ") {
		if field != "" {
			fields = append(fields, field)
		}
	}
	return fields
}

// next reads a field, whatever it is.
func (l *line) next() string {
	if len(l.fields) == 0 {
		panic(api.ErrDeskLine)
	}
	field := l.fields[0]
	l.fields = l.fields[1:]
	return field
}

// end sees to it that nothing is left. It is here that names which are amiss are given up: a field that is none is told ahead of them, wherever it stands.
func (l *line) end() {
	if len(l.fields) > 0 {
		panic(api.ErrDeskLine)
	}
	if l.amiss {
		panic(api.ErrDeskName)
	}
}

// upTo reads all fields that are left, one at least, and no more than most.
func (l *line) upTo(most int) []string {
	if len(l.fields) == 0 || len(l.fields) > most {
		panic(api.ErrDeskLine)
	}
	fields := l.fields
	l.fields = nil
	return fields
}

// rest reads all fields that are left, one at least, with one blank between each two.
func (l *line) rest() string { return strings.Join(l.upTo(len(l.fields)), " ") }

func (l *line) number() int { return numberOf(l.next()) }

// side reads a side of a frame that is made here.
func (l *line) side() int {
	n := l.number()
	if n > api.MaxDesk {
		panic(api.ErrDeskLine)
	}
	return n
}

func (l *line) flag() bool {
	switch l.next() {
	case "0":
		return false
	case "1":
		return true
	}
	panic(api.ErrDeskLine)
}

func (l *line) shape() api.Shape {
	return api.Shape{Width: l.side(), Height: l.side(), Depth: l.number(), Alpha: l.flag()}
}

func (l *line) rect() api.Rect {
	return api.Rect{X: l.number(), Y: l.number(), W: l.number(), H: l.number()}
}

func (l *line) hex() []byte {
	s := l.next()
	if len(s)%2 != 0 {
		panic(api.ErrDeskLine)
	}
	b := make([]byte, len(s)/2)
	for i := range b {
		b[i] = hexDigit(s[2*i])<<4 | hexDigit(s[2*i+1])
	}
	return b
}

// ladder reads all fields that are left as rungs.
func (l *line) ladder() []api.Rung {
	var ladder []api.Rung
	for _, field := range l.upTo(api.MaxLadder) {
		ladder = append(ladder, rungOf(field))
	}
	return ladder
}

// nameOf is a text that is a name.
func nameOf(s string) string {
	if s == "" || len(s) > api.MaxName || !isLetter(s[0]) {
		panic(api.ErrDeskLine)
	}
	for i := range len(s) {
		if !isLetter(s[i]) && !isDigit(s[i]) && s[i] != '-' {
			panic(api.ErrDeskLine)
		}
	}
	return s
}

// numberOf is what a text says that is a number.
func numberOf(s string) int {
	if s == "" || len(s) > 9 || len(s) > 1 && s[0] == '0' {
		panic(api.ErrDeskLine)
	}
	for i := range len(s) {
		if !isDigit(s[i]) {
			panic(api.ErrDeskLine)
		}
	}
	n, _ := strconv.Atoi(s)
	return n
}

// rungOf is what a text says that is a rung.
func rungOf(s string) api.Rung {
	var rung api.Rung
	parts := strings.Split(s, ",")
	if len(parts) != len(rung) {
		panic(api.ErrDeskLine)
	}
	for p, part := range parts {
		rung[p] = numberOf(part)
	}
	return rung
}

func hexDigit(c byte) byte {
	switch {
	case isDigit(c):
		return c - '0'
	case 'a' <= c && c <= 'f':
		return c - 'a' + 10
	}
	panic(api.ErrDeskLine)
}

func isLetter(c byte) bool { return 'a' <= c && c <= 'z' }

func isDigit(c byte) bool { return '0' <= c && c <= '9' }
