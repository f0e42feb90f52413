package pool

import (
	"slices"

	"dailies/api"
	"dailies/picture"
	"dailies/plane"
	"dailies/view"
)

// part is a slice that was decoded: its planes (none, if it is lost), and how it stands.
type part struct {
	planes [][]uint16
	mark   api.Mark
}

// decode is the frame of what was read, and its report, each slice decoded by the worker who took it.
func (r *record) decode(limit, workers int) (api.Frame, api.Report) {
	f, _ := plane.New(r.head.Shape)
	numbers := r.grid().numbers()
	report := api.Report{Head: r.head, Slices: numbers, Marks: make([]api.Mark, len(numbers)), Given: len(r.bytes) + given(r.head.Shape)}
	left := numbers
	if r.mends() {
		left = r.mend(f, &report, limit)
	}
	for m := range share(left, workers, r.part) {
		lay(f, r.grid().rect(m.number), m.thing.planes)
		report.Marks[m.number] = m.thing.mark
	}
	return f, report
}

// part decodes a slice that needs no mending, or has none.
func (r *record) part(k int) part {
	if r.spoilt[k] {
		return part{mark: api.Lost}
	}
	blocks, e := picture.Blocks(r.head, k, r.payload(k))
	if e != api.OK {
		return part{mark: api.Lost}
	}
	planes := make([][]uint16, len(blocks))
	for p, b := range blocks {
		planes[p] = b.Samples
	}
	return part{planes, api.Sound}
}

// mend lets view bring back what is spoilt, by one look at a rectangle that has all of it, so that the spoilt payloads are worked out but once. Which slices are left is told.
func (r *record) mend(f api.Frame, report *api.Report, limit int) []int {
	around := r.around()
	// All has been read, and by this limit: no step is refused.
	g, told, _ := view.Region(view.Of(r.bytes), around, limit)
	lay(f, around, g.Planes)
	for i, k := range told.Slices {
		report.Marks[k] = told.Marks[i]
	}
	// What this look was given beyond bytes and samples is what was worked out.
	report.Given += told.Given - len(r.bytes) - given(g.Shape)
	return slices.DeleteFunc(slices.Clone(report.Slices), func(k int) bool {
		_, done := slices.BinarySearch(told.Slices, k)
		return done
	})
}

// around is the least rectangle that has all spoilt slices whole.
func (r *record) around() api.Rect {
	left, top, right, bottom := r.head.Shape.Width, r.head.Shape.Height, 0, 0
	for k, spoilt := range r.spoilt {
		if !spoilt {
			continue
		}
		s := r.grid().rect(k)
		left, top = min(left, s.X), min(top, s.Y)
		right, bottom = max(right, s.X+s.W), max(bottom, s.Y+s.H)
	}
	return api.Rect{X: left, Y: top, W: right - left, H: bottom - top}
}

func (r *record) grid() grid { return grid{r.head.Shape, r.head.SliceW, r.head.SliceH} }

// given is what view's arena gives for the samples of whole slices: two bytes for each, in its block and in its frame.
func given(s api.Shape) int {
	n, _ := plane.Samples(s)
	return 4 * n
}
