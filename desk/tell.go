package desk

import (
	"errors"
	"strconv"
	"strings"

	"dailies/api"
	"dailies/crc"
)

// done is what a command tells that has nothing else to say.
const done = "ok"

// joined are numbers with a text between each two.
func joined[T ~int | ~uint16](between string, numbers ...T) string {
	texts := make([]string, len(numbers))
	for i, n := range numbers {
		texts[i] = strconv.Itoa(int(n))
	}
	return strings.Join(texts, between)
}

func bit(b bool) int {
	if b {
		return 1
	}
	return 0
}

func shapeText(s api.Shape) string { return joined(" ", s.Width, s.Height, s.Depth, bit(s.Alpha)) }

func rungText(r api.Rung) string { return joined(",", r[:]...) }

// codedText is a record's length, and by which rung it was made.
func codedText(length, step int, rung api.Rung) string {
	return strconv.Itoa(length) + " step " + strconv.Itoa(step) + " rung " + rungText(rung)
}

func marksText(marks []api.Mark) string { return " marks " + joined("", marks...) }

func blockText(b api.Block) string {
	rows := make([]string, b.H)
	for y := range rows {
		rows[y] = joined(" ", b.Samples[y*b.W:][:b.W]...)
	}
	return strings.Join(rows, " / ")
}

// sumText is the sum of bytes, in eight digits.
func sumText(b []byte) string {
	text := strconv.FormatUint(uint64(crc.Sum(b)), 16)
	return strings.Repeat("0", 8-len(text)) + text
}

func bytesText(b []byte) string { return strconv.Itoa(len(b)) + " bytes " + sumText(b) }

// faultText is an error that is told at a place.
func faultText(err error) string {
	var fault *api.Fault
	at := 0
	if errors.As(err, &fault) {
		at = fault.At
	}
	return "fault " + errnoText(err) + " at " + strconv.Itoa(at)
}

func errnoText(err error) string { return strconv.Itoa(int(errnoOf(err))) }

// errnoOf is the number that an error wraps.
func errnoOf(err error) api.Errno {
	var e api.Errno
	errors.As(err, &e)
	return e
}
