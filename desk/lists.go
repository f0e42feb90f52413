package desk

import (
	"strconv"
	"strings"

	"dailies/api"
	"dailies/conform"
	"dailies/cuts"
	"dailies/medium"
	"dailies/reel"
)

// cutting is a cutting list's text.
type cutting struct{ text string }

func (d *Desk) list(l *line) deed {
	name, more := d.lists.place(l), l.rest()
	return func() string {
		// A list that is too long is refused for that alone, whatever else stands in it: it need not grow.
		if x := d.lists.things[name]; len(x.text) <= api.MaxCuts {
			d.lists.lay(name, cutting{x.text + more + "\n"})
		}
		return done
	}
}

func (d *Desk) print(l *line) deed {
	x := d.lists.thing(l)
	return func() string {
		list, err := cuts.Parse(x.text)
		if err != nil {
			return faultText(err)
		}
		text, err := cuts.Print(list)
		must(errnoOf(err))
		return strings.ReplaceAll(text, "\n", "|")
	}
}

func (d *Desk) build(l *line) deed {
	name, x := d.media.vacant(l), d.lists.thing(l)
	return func() string {
		list, err := cuts.Parse(x.text)
		if err != nil {
			return faultText(err)
		}
		to := medium.New()
		built, err := conform.Build(list, d.reels(), d.coding, api.MaxSamples, to)
		if err != nil {
			return "refused " + errnoText(err)
		}
		d.media.lay(name, &tape{medium: to})
		return "frames " + strconv.Itoa(built.Frames) + " copied " + strconv.Itoa(built.Copied) + " mixed " + strconv.Itoa(built.Mixed)
	}
}

// reels are those of the media that are reels, by their names.
func (d *Desk) reels() map[string]*reel.Reel {
	reels := map[string]*reel.Reel{}
	for name, x := range d.media.things {
		if r, e := reel.Open(x.medium); e == api.OK {
			reels[name] = r
		}
	}
	return reels
}
