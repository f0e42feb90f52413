package desk

import (
	"math"
	"strconv"

	"dailies/api"
	"dailies/conform"
	"dailies/pixel"
	"dailies/plane"
)

// layFrame lets a name stand for a frame, and tells it.
func (d *Desk) layFrame(name string, f api.Frame) string {
	d.frames.lay(name, f)
	return "frame " + shapeText(f.Shape)
}

// painted is a frame whose samples are told by their planes and places, plane by plane, in order.
func painted(s api.Shape, sample func(plane, x, y int) int) api.Frame {
	f := right(plane.New(s))
	for p, samples := range f.Planes {
		w, _, e := plane.Size(s, p)
		must(e)
		for i := range samples {
			samples[i] = uint16(sample(p, i%w, i/w))
		}
	}
	return f
}

func (d *Desk) flat(l *line) deed {
	name, s, v := d.frames.place(l), l.shape(), l.number()
	return func() string {
		f := painted(s, func(int, int, int) int { return min(v, math.MaxUint16) })
		must(plane.Valid(f))
		return d.layFrame(name, f)
	}
}

func (d *Desk) ramp(l *line) deed {
	name, s, across, down := d.frames.place(l), l.shape(), l.number(), l.number()
	return func() string {
		return d.layFrame(name, painted(s, func(p, x, y int) int { return (across*x + down*y + p) % (1 << s.Depth) }))
	}
}

func (d *Desk) noise(l *line) deed {
	name, s, seed := d.frames.place(l), l.shape(), l.number()
	return func() string {
		n := seed
		return d.layFrame(name, painted(s, func(int, int, int) int {
			n = (1103515245*n + 12345) % (1 << 31)
			return n / 65536 % (1 << s.Depth)
		}))
	}
}

func (d *Desk) dot(l *line) deed {
	name, p, x, y, v := d.frames.known(l), l.number(), l.number(), l.number(), l.number()
	return func() string {
		one := api.Block{W: 1, H: 1, Samples: []uint16{uint16(min(v, math.MaxUint16))}}
		return d.layFrame(name, right(plane.Paste(d.frames.things[name], p, x, y, one)))
	}
}

func (d *Desk) part(l *line) deed {
	name, f, r := d.frames.place(l), d.frames.thing(l), l.rect()
	return func() string { return d.layFrame(name, right(plane.Cut(f, r))) }
}

func (d *Desk) mix(l *line) deed {
	name, f, g, part, of := d.frames.place(l), d.frames.thing(l), d.frames.thing(l), l.number(), l.number()
	return func() string { return d.layFrame(name, right(conform.Mix(f, g, part, of))) }
}

func (d *Desk) show(l *line) deed {
	f, p, r := d.frames.thing(l), l.number(), l.rect()
	return func() string { return blockText(right(plane.Crop(f, p, r))) }
}

func (d *Desk) apart(l *line) deed {
	f, g := d.frames.thing(l), d.frames.thing(l)
	return func() string { return rungText(right(plane.Apart(f, g))) }
}

func (d *Desk) meanSquare(l *line) deed {
	f, g, p := d.frames.thing(l), d.frames.thing(l), l.number()
	return func() string { return strconv.FormatFloat(right(plane.Error(f, g, p)), 'g', -1, 64) }
}

func (d *Desk) pack(l *line) deed {
	f, packed := d.frames.thing(l), format(l)
	return func() string { return bytesText(right(packed(f))) }
}

// format reads how a frame is to be written as bytes.
func format(l *line) func(api.Frame) ([]byte, api.Errno) {
	switch l.next() {
	case "planar":
		return pixel.PackPlanar
	case "v210":
		return pixel.PackV210
	}
	panic(api.ErrDeskLine)
}
