package reel

import (
	"bytes"
	"unicode/utf8"

	"dailies/api"
	"dailies/bits"
	"dailies/crc"
)

const (
	wordSize  = 4
	linkSize  = 16
	titleAt   = 7 // of a label
	lastStart = 5183999

	longestLabel = titleAt + api.MaxTitle + 2*wordSize
)

// mayBe tells whether a label is one that a reel may have.
func mayBe(l api.Label) bool {
	return len(l.Title) <= api.MaxTitle && utf8.ValidString(l.Title) &&
		l.Rate >= api.Rate24 && l.Rate <= api.Rate60Drop &&
		l.Start >= 0 && l.Start <= lastStart
}

// labelBytes are those of a label that may be.
func labelBytes(l api.Label) []byte {
	b := append([]byte("REEL"), 1, byte(l.Rate), byte(len(l.Title)))
	return summed(words(append(b, l.Title...), l.Start))
}

// labelOf is the label that bytes begin with; false, if they begin with none that is right.
func labelOf(b []byte) (api.Label, bool) {
	if len(b) < titleAt {
		return api.Label{}, false
	}
	title := b[titleAt:]
	length := int(b[titleAt-1])
	if len(title) < length+wordSize {
		return api.Label{}, false
	}
	l := api.Label{Title: string(title[:length]), Rate: api.Rate(b[titleAt-2]), Start: word(title, length)}
	// What is not asked above (the letters, the sum) is held against the bytes that this label would have.
	if !mayBe(l) || !bytes.HasPrefix(b, labelBytes(l)) {
		return api.Label{}, false
	}
	return l, true
}

// linkBytes are those of the link ahead of a record.
func linkBytes(number int, length int) []byte {
	return summed(words([]byte("LINK"), number, length))
}

// linkLength is how many bytes a link says that its record has.
func linkLength(b []byte) int { return word(b, 2*wordSize) }

// endBytes are the index of the records whose links stand at these places, and the foot of this index, which stands at a place.
func endBytes(links []int, at int) []byte {
	index := summed(words(words([]byte("INDX"), len(links)), links...))
	foot := summed(words([]byte("FOOT"), at))
	return append(index, foot...)
}

// summed puts the sum of bytes behind them.
func summed(b []byte) []byte { return words(b, int(crc.Sum(b))) }

// words puts numbers behind bytes, four bytes each.
func words(to []byte, numbers ...int) []byte {
	for _, n := range numbers {
		// Places and counts lie within a medium, sums and what a link says come from four bytes: all of them fit.
		b, _ := bits.Big(uint64(n), wordSize)
		to = append(to, b...)
	}
	return to
}

// word is the number that stands in four bytes from a place on.
func word(b []byte, at int) int {
	n, _ := bits.Number(b[at : at+wordSize])
	return int(n)
}
