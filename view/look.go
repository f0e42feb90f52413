package view

import (
	"dailies/api"
	"dailies/arena"
	"dailies/picture"
	"dailies/plane"
	"dailies/tile"
)

const headSize = 32 // bytes

// look is a record that is being looked at.
type look struct {
	src     api.Source
	size    int
	meter   *arena.Arena
	head    api.Head
	grid    *tile.Grid
	entries []api.Entry
	pieces  map[int]piece // what was read, by the numbers of the entries
}

// newLook has read nothing yet. Its meter gives no more than Bound: a size beyond all media is that of no record, and its head is all that will be read.
func newLook(src api.Source, limit int) *look {
	size := src.Size()
	most, _ := Bound(limit, min(max(size, 0), api.MaxMedium))
	meter, _ := arena.New(most)
	return &look{src: src, size: size, meter: meter, pieces: map[int]piece{}}
}

// begin goes the steps that come ahead of what is asked for: the arguments, the head, the limit.
func begin(src api.Source, limit int) (*look, api.Errno) {
	if src == nil || limit < 0 || limit > api.MaxSamples {
		return nil, api.ErrArg
	}
	l := newLook(src, limit)
	if e := l.readHead(); e != api.OK {
		return nil, e
	}
	// A head that was read is right: neither its shape nor its sides are refused.
	if n, _ := plane.Samples(l.head.Shape); n > limit {
		return nil, api.ErrLimit
	}
	l.grid, _ = tile.New(l.head.Shape, l.head.SliceW, l.head.SliceH)
	return l, api.OK
}

// readHead reads what there is of 32 bytes.
func (l *look) readHead() api.Errno {
	b, e := l.read(0, min(headSize, l.size))
	if e != api.OK {
		return e
	}
	l.head, e = picture.Head(b)
	return e
}

// readRecord goes the steps behind those of begin: the length, the table, the slices that are asked for.
func (l *look) readRecord(asked []int) api.Errno {
	if l.size != l.head.Length {
		return api.ErrPictureLength
	}
	if e := l.readTable(); e != api.OK {
		return e
	}
	return l.readSlices(asked)
}

func (l *look) readTable() api.Errno {
	b, e := l.read(headSize, picture.TableSize(l.head))
	if e != api.OK {
		return e
	}
	l.entries, e = picture.Table(l.head, b)
	return e
}

// read is n bytes from a place on, in memory of the meter's; where there are none to read, the source is not asked.
func (l *look) read(at, n int) ([]byte, api.Errno) {
	if n <= 0 {
		return nil, api.OK
	}
	b, e := l.src.Read(at, n)
	if e != api.OK {
		return nil, e
	}
	return l.keep(b, n), api.OK
}

// keep copies bytes to n of the meter's, which has them by Bound.
func (l *look) keep(b []byte, n int) []byte {
	kept, _ := l.meter.Bytes(n)
	copy(kept, b)
	return kept
}

// report tells of the slices that were asked for, at the end of all that the meter gave.
func (l *look) report(asked []int, marks []api.Mark) api.Report {
	return api.Report{Head: l.head, Slices: asked, Marks: marks, Given: l.meter.Given()}
}
