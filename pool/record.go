package pool

import (
	"slices"

	"dailies/api"
	"dailies/picture"
	"dailies/plane"
)

const headSize = 32 // bytes

// record is what was read of a source. What view's steps read lies one behind the other, so it is the record's bytes from the first one on.
type record struct {
	src     api.Source
	bytes   []byte
	head    api.Head
	entries []api.Entry
	spoilt  []bool // of each slice: is its payload another one than its sum says?
}

// read goes view's steps up to all that is read, by the one hand that asks the source.
func read(src api.Source, limit int) (*record, api.Errno) {
	if src == nil || limit < 0 || limit > api.MaxSamples {
		return nil, api.ErrArg
	}
	r := &record{src: src}
	if e := r.readFront(limit); e != api.OK {
		return nil, e
	}
	if e := r.readEntries(r.entries[:r.head.Slices]); e != api.OK {
		return nil, e
	}
	r.weigh()
	if !r.mends() {
		return r, api.OK
	}
	if e := r.readEntries(r.entries[r.head.Slices:]); e != api.OK {
		return nil, e
	}
	return r, api.OK
}

// readFront reads the head, and the table, if the head allows.
func (r *record) readFront(limit int) api.Errno {
	size := r.src.Size()
	e := r.more(min(headSize, size))
	if e != api.OK {
		return e
	}
	if r.head, e = picture.Head(r.bytes); e != api.OK {
		return e
	}
	if n, _ := plane.Samples(r.head.Shape); n > limit {
		return api.ErrLimit
	}
	if size != r.head.Length {
		return api.ErrPictureLength
	}
	if e = r.more(picture.TableSize(r.head)); e != api.OK {
		return e
	}
	r.entries, e = picture.Table(r.head, r.bytes[headSize:])
	return e
}

func (r *record) readEntries(list []api.Entry) api.Errno {
	for _, entry := range list {
		if e := r.more(entry.Length); e != api.OK {
			return e
		}
	}
	return api.OK
}

// more reads the next n bytes; where there are none to read, the source is not asked.
func (r *record) more(n int) api.Errno {
	if n <= 0 {
		return api.OK
	}
	at := len(r.bytes)
	b, e := r.src.Read(at, n)
	if e != api.OK {
		return e
	}
	// Just n are kept, however many were told, so that what comes behind is in its place.
	r.bytes = append(r.bytes, make([]byte, n)...)
	copy(r.bytes[at:], b)
	return api.OK
}

// payload is a slice's bytes.
func (r *record) payload(k int) []byte {
	entry := r.entries[k]
	return r.bytes[entry.At : entry.At+entry.Length]
}

// weigh holds the sums of all payloads against those that picture tells of the same payloads, when it makes a record of them.
func (r *record) weigh() {
	payloads := make([][]byte, r.head.Slices)
	for k := range payloads {
		payloads[k] = r.payload(k)
	}
	c := picture.Pinned(r.head)
	c.Parity = 0
	// Nothing is refused: the head is right, and without parity rows the record is no longer than this one.
	b, _ := picture.Assemble(r.head.Shape, c, r.head.Rung, payloads)
	h, _ := picture.Head(b)
	list, _ := picture.Table(h, b[headSize:])
	for k, entry := range list {
		r.spoilt = append(r.spoilt, entry.Sum != r.entries[k].Sum)
	}
}

// mends tells whether parity is asked to bring something back.
func (r *record) mends() bool { return r.head.Parity > 0 && slices.Contains(r.spoilt, true) }
