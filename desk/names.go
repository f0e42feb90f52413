package desk

import (
	"strconv"

	"dailies/api"
	"dailies/timecode"
)

func (d *Desk) name(l *line) deed {
	rate, n := l.number(), l.number()
	return func() string { return right(timecode.Name(api.Rate(rate), n)) }
}

func (d *Desk) number(l *line) deed {
	rate, name := l.number(), l.next()
	return func() string {
		n, err := timecode.Number(api.Rate(rate), name)
		if err != nil {
			return faultText(err)
		}
		return strconv.Itoa(n)
	}
}

func (d *Desk) convert(l *line) deed {
	from, to, n := l.number(), l.number(), l.number()
	return func() string {
		return strconv.Itoa(right(timecode.Convert(api.Rate(from), api.Rate(to), n)))
	}
}

// names are those of all things that lie on the desk.
func (d *Desk) names(*line) deed {
	return func() string {
		return "frames" + listed(d.frames.names()) + "; records" + listed(d.records.names()) + "; media" + listed(d.media.names()) + "; lists" + listed(d.lists.names())
	}
}

// listed are names, each with a blank ahead.
func listed(names []string) string {
	text := ""
	for _, name := range names {
		text += " " + name
	}
	return text
}
