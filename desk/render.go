package desk

import (
	"strconv"
	"strings"

	"dailies/api"
	"dailies/farm"
)

func (d *Desk) render(l *line) deed {
	workers := l.number()
	frames, fails := d.jobs(l)
	return func() string {
		var texts []string
		for _, x := range right(farm.Render(frames, d.coding, workers, fails)) {
			texts = append(texts, strconv.Itoa(len(x.Bytes))+":"+sumText(x.Bytes))
		}
		return strings.Join(texts, " ")
	}
}

// jobs reads all fields that are left as frames, and how many tries of each fail.
func (d *Desk) jobs(l *line) ([]api.Frame, []int) {
	var frames []api.Frame
	var fails []int
	for _, field := range l.upTo(api.MaxThings) {
		name, tries, told := strings.Cut(field, ":")
		n := 0
		if told {
			n = numberOf(tries)
		}
		frames = append(frames, d.frames.things[d.frames.find(l, name)])
		fails = append(fails, n)
	}
	return frames, fails
}
