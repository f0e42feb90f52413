package desk

import (
	"strconv"

	"dailies/api"
	"dailies/picture"
	"dailies/view"
)

// config takes what it is given: whether frames may be coded so hangs on their shapes, and is told where they are coded.
func (d *Desk) config(l *line) deed {
	c := api.Config{SliceW: l.number(), SliceH: l.number(), Cap: l.number(), Parity: l.number(), Ladder: l.ladder()}
	return func() string {
		d.coding = c
		return done
	}
}

// layRecord lets a name stand for a record, and tells it.
func (d *Desk) layRecord(name string, x api.Coded) string {
	d.records.lay(name, x.Bytes)
	return "record " + codedText(len(x.Bytes), x.Step, x.Rung)
}

// laySeen lets a name stand for what was seen of a record, and tells it, and how its slices stood.
func (d *Desk) laySeen(name string, f api.Frame, r api.Report) string {
	return d.layFrame(name, f) + marksText(r.Marks)
}

func (d *Desk) code(l *line) deed {
	name, f := d.records.place(l), d.frames.thing(l)
	return func() string { return d.layRecord(name, right(picture.Encode(f, d.coding))) }
}

func (d *Desk) head(l *line) deed {
	record := d.records.thing(l)
	return func() string {
		h := right(picture.Head(record))
		return shapeText(h.Shape) + " slices " + strconv.Itoa(h.Slices) + " parity " + strconv.Itoa(h.Parity) + " rung " + rungText(h.Rung) + " length " + strconv.Itoa(h.Length)
	}
}

func (d *Desk) look(l *line) deed {
	name, record := d.frames.place(l), d.records.thing(l)
	return func() string {
		f, report, e := view.Whole(view.Of(record), api.MaxSamples)
		must(e)
		return d.laySeen(name, f, report)
	}
}

func (d *Desk) slice(l *line) deed {
	record, k := d.records.thing(l), l.number()
	return func() string {
		blocks, report, e := view.Slice(view.Of(record), k, api.MaxSamples)
		must(e)
		sums := make([]int, len(blocks))
		for i, b := range blocks {
			sums[i] = total(b.Samples)
		}
		return "marks " + joined("", report.Marks...) + " sums " + joined(" ", sums...)
	}
}

func (d *Desk) region(l *line) deed {
	name, record, r := d.frames.place(l), d.records.thing(l), l.rect()
	return func() string {
		f, report, e := view.Region(view.Of(record), r, api.MaxSamples)
		must(e)
		return d.laySeen(name, f, report)
	}
}

func (d *Desk) again(l *line) deed {
	name, record := d.records.place(l), d.records.thing(l)
	return func() string {
		f, report, e := view.Whole(view.Of(record), api.MaxSamples)
		must(e)
		return d.layRecord(name, right(picture.Encode(f, picture.Pinned(report.Head))))
	}
}

func (d *Desk) spoil(l *line) deed {
	record, at, b := d.records.thing(l), l.number(), l.hex()
	return func() string {
		if at > len(record)-len(b) {
			panic(api.ErrMediumRange)
		}
		copy(record[at:], b)
		return done
	}
}

// total is the sum of samples.
func total(samples []uint16) int {
	sum := 0
	for _, v := range samples {
		sum += int(v)
	}
	return sum
}
