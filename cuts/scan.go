package cuts

import (
	"strings"
	"unicode/utf8"

	"dailies/api"
)

// kind of a word.
type kind int

const (
	plain  kind = iota
	text        // between two `"`
	broken      // a text without an end, or with a `\` that may not be: it can stand nowhere
)

// word of a line: its place in the whole text, and what it stands for.
type word struct {
	kind kind
	at   int
	says string
}

// line is words, and where one that is missing behind them is told.
type line struct {
	words []word
	end   int
}

// checkText tells what is wrong with a text, whatever its lines say.
func checkText(s string) error {
	if len(s) > api.MaxCuts {
		return &api.Fault{At: 0, Err: api.ErrCutsLong}
	}
	for at, r := range s {
		// A text may have this rune itself, too.
		if r == utf8.RuneError && !strings.HasPrefix(s[at:], string(utf8.RuneError)) {
			return &api.Fault{At: at, Err: api.ErrCutsUTF8}
		}
	}
	return nil
}

// state is where in a line a scan stands.
type state int

const (
	between state = iota // words
	inWord
	inText
	behindEscape // the `\` of a text
)

// scan goes along a line.
type scan struct {
	state state
	words []word
	now   word // the one that it stands in
	signs []rune
}

// scanLine tells the words of a line, which begins at this place of the whole text.
func scanLine(s string, start int) line {
	var c scan
	for i, r := range s {
		at := start + i
		switch c.state {
		case between:
			if r == '#' {
				return line{words: c.words, end: at}
			}
			c.begin(at, r)
		case inWord:
			c.goOn(r)
		case inText:
			c.goOnText(r)
		case behindEscape:
			c.unescape(r)
		}
	}
	c.finish()
	return line{words: c.words, end: start + len(s)}
}

// begin begins a word, if the rune is none that stands between them.
func (c *scan) begin(at int, r rune) {
	if isBlank(r) {
		return
	}
	c.signs = c.signs[:0]
	if r == '"' {
		c.state, c.now = inText, word{kind: text, at: at}
		return
	}
	c.state, c.now = inWord, word{kind: plain, at: at}
	c.signs = append(c.signs, r)
}

// goOn is a rune behind a plain word's first one.
func (c *scan) goOn(r rune) {
	if isBlank(r) {
		c.end()
		return
	}
	c.signs = append(c.signs, r)
}

// goOnText is a rune within a text.
func (c *scan) goOnText(r rune) {
	switch r {
	case '"':
		c.end()
	case '\\':
		c.state = behindEscape
	default:
		c.signs = append(c.signs, r)
	}
}

// unescape is the rune that a text's `\` stands ahead of.
func (c *scan) unescape(r rune) {
	c.state = inText
	switch r {
	case '"', '\\':
		c.signs = append(c.signs, r)
	case 'n':
		c.signs = append(c.signs, '\n')
	default:
		c.now.kind = broken
	}
}

// end ends the word.
func (c *scan) end() {
	c.now.says = string(c.signs)
	c.words = append(c.words, c.now)
	c.state = between
}

// finish is the line's end.
func (c *scan) finish() {
	switch c.state {
	case inWord:
		c.end()
	case inText, behindEscape:
		c.now.kind = broken
		c.end()
	}
}

// isBlank tells whether a rune keeps words apart.
func isBlank(r rune) bool { return r == ' ' || r == '\t' }
