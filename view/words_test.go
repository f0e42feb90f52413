package view_test

import (
	"bytes"
	"encoding/binary"
	"math"
	"slices"
	"testing"

	"dailies/api"
	"dailies/crc"
	"dailies/parity"
	"dailies/picture"
	"dailies/slice"
	"dailies/view"
)

// chance tells numbers that look as if by chance, the same ones each time.
type chance uint64

func (c *chance) below(n int) int {
	*c = *c*6364136223846793005 + 1442695040888963407
	return int(uint64(*c)>>33) % n
}

// odd are numbers that are hardly any slice, limit, length or side.
func odd() []int {
	return []int{math.MinInt, math.MinInt + 1, math.MinInt32, -1 << 32, -2, -1, 1 << 31, 1 << 32, 1<<32 + 16, math.MaxInt - 1, math.MaxInt}
}

func count(s api.Shape) int {
	if s.Alpha {
		return 4
	}
	return 3
}

// rects are the slices' rectangles of luma, row by row, found by taking one off after the other.
func rects(s api.Shape, w, h int) []api.Rect {
	var list []api.Rect
	for y := 0; y < s.Height; y += h {
		for x := 0; x < s.Width; x += w {
			list = append(list, api.Rect{X: x, Y: y, W: min(w, s.Width-x), H: min(h, s.Height-y)})
		}
	}
	return list
}

// part is what belongs to a rectangle of luma in a plane.
func part(p int, r api.Rect) api.Rect {
	if p == api.Luma || p == api.Alpha {
		return r
	}
	return api.Rect{X: r.X / 2, Y: r.Y, W: (r.W + 1) / 2, H: r.H}
}

// all is the rectangle of a whole frame; samples is how many a rectangle has of all planes.
func all(s api.Shape) api.Rect { return api.Rect{W: s.Width, H: s.Height} }

func samples(s api.Shape, r api.Rect) int {
	total := 0
	for p := range count(s) {
		total += part(p, r).W * r.H
	}
	return total
}

// frameOf has samples that are told by their plane and place.
func frameOf(s api.Shape, sample func(p, x, y int) int) api.Frame {
	f := api.Frame{Shape: s}
	for p := range count(s) {
		list := make([]uint16, 0, s.Width*s.Height)
		for y := range s.Height {
			for x := range part(p, all(s)).W {
				list = append(list, uint16(min(max(sample(p, x, y), 0), 1<<s.Depth-1)))
			}
		}
		f.Planes = append(f.Planes, list)
	}
	return f
}

// flat, ramp, noise and mixed are frames by which slices are told very short, short, raw, and all of these.
func flat(s api.Shape, v int) api.Frame { return frameOf(s, func(p, x, y int) int { return v }) }

func ramp(s api.Shape) api.Frame {
	return frameOf(s, func(p, x, y int) int { return (3*x + 7*y + p) % (1 << s.Depth) })
}

func noise(s api.Shape, c *chance) api.Frame {
	return frameOf(s, func(p, x, y int) int { return c.below(1 << s.Depth) })
}

func mixed(s api.Shape, c *chance) api.Frame {
	return frameOf(s, func(p, x, y int) int {
		switch (x/11 + y/13 + p) % 4 {
		case 0:
			return c.below(1 << s.Depth)
		case 1:
			return 1<<s.Depth - 1 - c.below(3)
		case 2:
			return 5*x + y + c.below(20)
		default:
			return 300
		}
	})
}

var big = binary.BigEndian

// headOf is a head's bytes, right or not.
func headOf(h api.Head) []byte {
	b := []byte{0x44, 0x4c, 0x59, 0x31}
	b = big.AppendUint16(b, uint16(h.Shape.Width))
	b = big.AppendUint16(b, uint16(h.Shape.Height))
	b = append(b, byte(h.Shape.Depth), 0)
	if h.Shape.Alpha {
		b[9] = 1
	}
	b = big.AppendUint16(b, uint16(h.SliceW))
	b = big.AppendUint16(b, uint16(h.SliceH))
	for _, d := range h.Rung {
		b = append(b, byte(d))
	}
	b = big.AppendUint32(b, uint32(h.Slices))
	b = append(b, byte(h.Parity), 0)
	b = big.AppendUint32(b, uint32(h.Length))
	return big.AppendUint32(b, crc.Sum(b))
}

// resum makes the last four bytes the sum of those ahead, so that a head or a table that was written over is one.
func resum(b []byte) {
	n := len(b) - 4
	big.PutUint32(b[n:], crc.Sum(b[:n]))
}

// tap is a source that tells what it was asked for, and refuses one of its calls (-1: none).
type tap struct {
	bytes  []byte
	size   int
	refuse int
	errno  api.Errno
	reads  []api.Span
	told   [][]byte
}

func tapOf(b []byte) *tap { return &tap{bytes: b, size: len(b), refuse: -1} }

func (t *tap) Size() int { return t.size }

func (t *tap) Read(at, n int) ([]byte, api.Errno) {
	t.reads = append(t.reads, api.Span{At: at, Length: n})
	if len(t.reads)-1 == t.refuse {
		return nil, t.errno
	}
	if at < 0 || n < 0 || at > len(t.bytes) || n > len(t.bytes)-at {
		return nil, api.ErrMediumRange
	}
	t.told = append(t.told, bytes.Clone(t.bytes[at:at+n]))
	return t.told[len(t.told)-1], api.OK
}

// What is asked for.
const (
	whole = iota
	one
	region
)

type asking struct {
	what  int
	k     int
	r     api.Rect
	limit int
}

// answer is all that a call tells: of a slice its blocks, else the frame.
type answer struct {
	frame  api.Frame
	blocks []api.Block
	report api.Report
	errno  api.Errno
}

func (a asking) of(src api.Source) answer {
	var x answer
	switch a.what {
	case whole:
		x.frame, x.report, x.errno = view.Whole(src, a.limit)
	case one:
		x.blocks, x.report, x.errno = view.Slice(src, a.k, a.limit)
	default:
		x.frame, x.report, x.errno = view.Region(src, a.r, a.limit)
	}
	return x
}

func sameBlocks(a, b []api.Block) bool {
	return slices.EqualFunc(a, b, func(a, b api.Block) bool {
		return a.W == b.W && a.H == b.H && slices.Equal(a.Samples, b.Samples)
	})
}

func sameFrames(a, b api.Frame) bool {
	return a.Shape == b.Shape && slices.EqualFunc(a.Planes, b.Planes, slices.Equal)
}

func sameReports(a, b api.Report) bool {
	return a.Head == b.Head && slices.Equal(a.Slices, b.Slices) && slices.Equal(a.Marks, b.Marks) && a.Given == b.Given
}

func (x answer) is(y answer) bool {
	return x.errno == y.errno && sameFrames(x.frame, y.frame) && sameBlocks(x.blocks, y.blocks) && sameReports(x.report, y.report)
}

// isWhole is Words' sentence, of all numbers.
func isWhole(r api.Rect, s api.Shape) bool {
	if r.W < 1 || r.H < 1 || r.X < 0 || r.Y < 0 || r.W > s.Width || r.H > s.Height || r.X > s.Width-r.W || r.Y > s.Height-r.H {
		return false
	}
	return r.X%2 == 0 && (r.W%2 == 0 || r.X+r.W == s.Width)
}

func meet(a, b api.Rect) bool {
	return a.X < b.X+b.W && b.X < a.X+a.W && a.Y < b.Y+b.H && b.Y < a.Y+a.H
}

// words looks at a record by the chapter's words, step by step; it asks its source as the program must.
type words struct {
	src     api.Source
	asking  asking
	head    api.Head
	entries []api.Entry
	asked   []int
	read    [][]byte
	came    [][]byte // what step 8 worked out
	given   int
}

func (w *words) ask(at, n int) ([]byte, api.Errno) {
	w.given += n
	if n == 0 {
		return nil, api.OK
	}
	return w.src.Read(at, n)
}

func (w *words) steps1to6() api.Errno {
	if w.src == nil || w.asking.limit < 0 || w.asking.limit > 4194304 {
		return api.ErrArg
	}
	b, e := w.ask(0, min(32, w.src.Size()))
	if e != api.OK {
		return e
	}
	if w.head, e = picture.Head(b); e != api.OK {
		return e
	}
	s := w.head.Shape
	if samples(s, all(s)) > w.asking.limit {
		return api.ErrLimit
	}
	if w.asking.what == one && (w.asking.k < 0 || w.asking.k >= w.head.Slices) {
		return api.ErrViewSlice
	}
	if w.asking.what == region && !isWhole(w.asking.r, s) {
		return api.ErrViewRegion
	}
	if w.src.Size() != w.head.Length {
		return api.ErrPictureLength
	}
	if b, e = w.ask(32, 8*w.head.Slices+4*w.head.Parity+4); e != api.OK {
		return e
	}
	w.entries, e = picture.Table(w.head, b)
	return e
}

func (w *words) isAsked(k int) bool {
	switch w.asking.what {
	case whole:
		return true
	case one:
		return k == w.asking.k
	}
	return meet(w.asking.r, rects(w.head.Shape, w.head.SliceW, w.head.SliceH)[k])
}

func (w *words) isSpoilt(k int) bool { return crc.Sum(w.read[k]) != w.entries[k].Sum }

func (w *words) steps7and8() api.Errno {
	w.read, w.came = make([][]byte, len(w.entries)), make([][]byte, w.head.Slices)
	spoilt := false
	for k := range w.head.Slices {
		if !w.isAsked(k) {
			continue
		}
		b, e := w.ask(w.entries[k].At, w.entries[k].Length)
		if e != api.OK {
			return e
		}
		w.asked, w.read[k] = append(w.asked, k), b
		spoilt = spoilt || w.isSpoilt(k)
	}
	if !spoilt || w.head.Parity == 0 {
		return api.OK
	}
	for k, entry := range w.entries {
		if slices.Contains(w.asked, k) {
			continue
		}
		b, e := w.ask(entry.At, entry.Length)
		if e != api.OK {
			return e
		}
		w.read[k] = b
	}
	w.restore()
	return api.OK
}

func (w *words) restore() {
	n := w.head.Slices
	var lost, sizes []int
	for k := range w.entries {
		if w.isSpoilt(k) {
			lost = append(lost, k)
		}
		sizes = append(sizes, w.entries[k].Length)
	}
	if len(lost) > w.head.Parity {
		return
	}
	rows, e := parity.Restore(w.read[:n], sizes[:n], w.read[n:], lost)
	if e != api.OK {
		return
	}
	for _, k := range lost {
		if k < n {
			w.came[k] = append([]byte{}, rows[k]...)
			w.given += len(rows[k])
		}
	}
}

// stands is how a slice that was asked for stands, and its blocks.
func (w *words) stands(k int) ([]api.Block, api.Mark) {
	r := rects(w.head.Shape, w.head.SliceW, w.head.SliceH)[k]
	w.given += 2 * samples(w.head.Shape, r)
	if !w.isSpoilt(k) {
		if blocks, e := picture.Blocks(w.head, k, w.read[k]); e == api.OK {
			return blocks, api.Sound
		}
	} else if w.came[k] != nil && crc.Sum(w.came[k]) == w.entries[k].Sum {
		if blocks, e := picture.Blocks(w.head, k, w.came[k]); e == api.OK {
			return blocks, api.Mended
		}
	}
	var blocks []api.Block
	for p := range count(w.head.Shape) {
		q := part(p, r)
		blocks = append(blocks, api.Block{W: q.W, H: q.H, Samples: make([]uint16, q.W*q.H)})
	}
	return blocks, api.Lost
}

// byWords is what a call must answer.
func byWords(src api.Source, a asking) answer {
	w := &words{src: src, asking: a}
	if e := w.steps1to6(); e != api.OK {
		return answer{errno: e}
	}
	if e := w.steps7and8(); e != api.OK {
		return answer{errno: e}
	}
	s := w.head.Shape
	full := flat(s, 0)
	var x answer
	for _, k := range w.asked {
		blocks, mark := w.stands(k)
		x.report.Slices, x.report.Marks = append(x.report.Slices, k), append(x.report.Marks, mark)
		for p, b := range blocks {
			q := part(p, rects(s, w.head.SliceW, w.head.SliceH)[k])
			for i, v := range b.Samples {
				full.Planes[p][(q.Y+i/q.W)*part(p, all(s)).W+q.X+i%q.W] = v
			}
		}
		x.blocks = blocks
	}
	switch a.what {
	case whole:
		x.frame = full
	case region:
		x.frame = cutOf(full, a.r)
	}
	if a.what != one {
		x.blocks = nil
		w.given += 2 * samples(x.frame.Shape, all(x.frame.Shape))
	}
	x.report.Head, x.report.Given = w.head, w.given
	return x
}

// cutOf is the rectangle's samples, one by one, as a frame.
func cutOf(f api.Frame, r api.Rect) api.Frame {
	s := f.Shape
	s.Width, s.Height = r.W, r.H
	return frameOf(s, func(p, x, y int) int {
		q := part(p, r)
		return int(f.Planes[p][(q.Y+y)*part(p, all(f.Shape)).W+q.X+x])
	})
}

// check holds a call against the chapter's words: what it answers, and what it asks its source for, in that order; a call of the source's may be refused (-1: none is).
func check(t *testing.T, b []byte, a asking, refuse int, errno api.Errno) (answer, []api.Span) {
	t.Helper()
	mine, theirs := tapOf(b), tapOf(b)
	mine.refuse, mine.errno = refuse, errno
	theirs.refuse, theirs.errno = refuse, errno
	want, got := byWords(mine, a), a.of(theirs)
	if !got.is(want) {
		t.Fatalf("%+v, refused %d:\n%v %+v\nwant\n%v %+v", a, refuse, got.errno, got.report, want.errno, want.report)
	}
	if !slices.Equal(mine.reads, theirs.reads) {
		t.Fatalf("%+v, refused %d: reads %v\nwant %v", a, refuse, theirs.reads, mine.reads)
	}
	if got.errno != api.OK && (len(got.frame.Planes) > 0 || len(got.blocks) > 0) {
		t.Fatalf("%+v: something beside an error", a)
	}
	if got.errno == api.OK {
		bounded(t, got, a, len(b))
	}
	return got, theirs.reads
}

// bounded says that no sample is above MAX, and that no more was given than may be.
func bounded(t *testing.T, x answer, a asking, length int) {
	t.Helper()
	lists := slices.Clone(x.frame.Planes)
	for _, b := range x.blocks {
		lists = append(lists, b.Samples)
	}
	for _, list := range lists {
		if slices.Max(list) >= 1<<x.report.Head.Shape.Depth {
			t.Fatal("a sample above MAX")
		}
	}
	if most, e := view.Bound(a.limit, length); x.report.Given > most || e != api.OK {
		t.Fatal(x.report.Given, "is given; the bound is", most, e)
	}
}

// askings are all, each slice, and rectangles, of a shape: of all slices' corners, of one sample, and by chance.
func askings(h api.Head, c *chance) []asking {
	s := h.Shape
	limit := samples(s, all(s))
	list := []asking{{what: whole, limit: limit}}
	for k := range h.Slices {
		list = append(list, asking{what: one, k: k, limit: limit})
	}
	rs := append(rects(s, h.SliceW, h.SliceH), all(s), api.Rect{X: (s.Width - 1) / 2 * 2, Y: s.Height - 1, W: 2 - s.Width%2, H: 1})
	for range 12 {
		r := api.Rect{X: c.below(s.Width) / 2 * 2, Y: c.below(s.Height)}
		r.W, r.H = 1+c.below(s.Width-r.X), 1+c.below(s.Height-r.Y)
		if r.W%2 == 1 && r.X+r.W < s.Width {
			r.W++
		}
		rs = append(rs, r)
	}
	for _, r := range rs {
		list = append(list, asking{what: region, r: r, limit: limit})
	}
	return list
}

// way is a frame with a configuration that may be for it.
type way struct {
	frame  api.Frame
	config api.Config
}

// ways are frames and configurations of all kinds: with alpha and without, of both depths and odd widths, of one slice and of many, with parity and without.
func ways() []way {
	c := chance(13)
	rungs := []api.Rung{{}, {1, 2, 3}, {63, 63, 63}, {0, 5, 0}, {7, 0, 9}}
	var list []way
	for i, s := range []api.Shape{
		{Width: 1, Height: 1, Depth: 10}, {Width: 1, Height: 40, Depth: 12}, {Width: 16, Height: 16, Depth: 10}, {Width: 17, Height: 17, Depth: 12},
		{Width: 48, Height: 32, Depth: 10}, {Width: 51, Height: 20, Depth: 10}, {Width: 33, Height: 50, Depth: 12},
	} {
		for k, f := range []api.Frame{flat(s, 100), ramp(s), noise(s, &c), mixed(s, &c)} {
			rung := rungs[(i+k)%5 : (i+k)%5+1]
			for _, config := range []api.Config{
				{SliceW: 16, SliceH: 16, Ladder: rung},
				{SliceW: 18, SliceH: 17, Ladder: rung, Parity: 1 + k},
				{SliceW: 4096, SliceH: 4096, Ladder: rung, Parity: 4 * k},
				{SliceW: 16, SliceH: 4096, Ladder: rung, Parity: 16},
			} {
				list = append(list, way{f, config})
			}
		}
		s.Alpha = true
		list = append(list, way{mixed(s, &c), api.Config{SliceW: 16, SliceH: 16, Ladder: []api.Rung{{1, 2, 0, i}}, Parity: 3}}, way{noise(s, &c), api.Config{SliceW: 32, SliceH: 19, Ladder: []api.Rung{{3, 1, 2, 63}}}})
	}
	return list
}

// coded is a way's record, its head and its entries.
func coded(t *testing.T, w way) ([]byte, api.Head, []api.Entry) {
	t.Helper()
	x, e := picture.Encode(w.frame, w.config)
	if e != api.OK {
		t.Fatal(w.frame.Shape, w.config, e)
	}
	h, list := opened(t, x.Bytes)
	return x.Bytes, h, list
}

// assembled is the record of any payloads.
func assembled(t *testing.T, s api.Shape, c api.Config, payloads [][]byte) ([]byte, api.Head, []api.Entry) {
	t.Helper()
	b, e := picture.Assemble(s, c, c.Ladder[0], payloads)
	if e != api.OK {
		t.Fatal(s, c, e)
	}
	h, list := opened(t, b)
	return b, h, list
}

func opened(t *testing.T, record []byte) (api.Head, []api.Entry) {
	t.Helper()
	h, e := picture.Head(record)
	if e != api.OK {
		t.Fatal("Head", e)
	}
	list, e := picture.Table(h, record[32:])
	if e != api.OK {
		t.Fatal("Table", h, e)
	}
	return h, list
}

// bytesOf is what an entry says of a record.
func bytesOf(record []byte, entry api.Entry) []byte {
	return record[entry.At : entry.At+entry.Length]
}

// spoilt is a record whose pieces of these numbers are other ones.
func spoilt(record []byte, list []api.Entry, numbers ...int) []byte {
	b := bytes.Clone(record)
	for _, k := range numbers {
		n := min(4, list[k].Length)
		for i := range n {
			b[list[k].At+(list[k].Length-n)/3+i] ^= byte(0x5a + i)
		}
	}
	return b
}

// settled is the frame that a way's record must tell: slice's Settle of each slice's parts, one by one.
func settled(t *testing.T, w way) api.Frame {
	t.Helper()
	s := w.frame.Shape
	out := flat(s, 0)
	for _, r := range rects(s, w.config.SliceW, w.config.SliceH) {
		for p := range out.Planes {
			q := part(p, r)
			b := api.Block{W: q.W, H: q.H}
			for i := range q.W * q.H {
				b.Samples = append(b.Samples, w.frame.Planes[p][(q.Y+i/q.W)*part(p, all(s)).W+q.X+i%q.W])
			}
			b, e := slice.Settle(b, s.Depth, w.config.Ladder[0][p])
			if e != api.OK {
				t.Fatal(e)
			}
			for i, v := range b.Samples {
				out.Planes[p][(q.Y+i/q.W)*part(p, all(s)).W+q.X+i%q.W] = v
			}
		}
	}
	return out
}
