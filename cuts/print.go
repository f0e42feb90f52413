package cuts

import (
	"strconv"
	"strings"

	"dailies/api"
	"dailies/timecode"
)

// rateWords are the words of the rates, by their numbers.
var rateWords = [...]string{
	api.Rate24:     "24",
	api.Rate25:     "25",
	api.Rate30:     "30",
	api.Rate30Drop: "30d",
	api.Rate50:     "50",
	api.Rate60:     "60",
	api.Rate60Drop: "60d",
}

// listLine is the line ahead of the events.
func listLine(l api.CutList) string {
	return joined("list", rateWords[l.Rate], quoted(l.Title))
}

// eventLine is the line of an event.
func eventLine(rate api.Rate, e api.Event) string {
	words := []string{"cut"}
	if e.Fade > 0 {
		words = []string{"fade", strconv.Itoa(e.Fade)}
	}
	words = append(words, e.Reel, named(rate, e.In), named(rate, e.Out))
	if e.Note != "" {
		words = append(words, quoted(e.Note))
	}
	return joined(words...)
}

// joined is a line of these words.
func joined(words ...string) string { return strings.Join(words, " ") + "\n" }

// named is the name of a frame that there is.
func named(rate api.Rate, n int) string {
	s, _ := timecode.Name(rate, n)
	return s
}

// quoted is a text that stands for this.
func quoted(s string) string {
	var b strings.Builder
	b.WriteByte('"')
	for _, r := range s {
		switch r {
		case '"', '\\':
			b.WriteByte('\\')
			b.WriteRune(r)
		case '\n':
			b.WriteString(`\n`)
		default:
			b.WriteRune(r)
		}
	}
	b.WriteByte('"')
	return b.String()
}
