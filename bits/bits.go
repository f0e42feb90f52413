// Package bits is layer 1: bits, the highest first; numbers in bytes: see shared/doc/01-bits.md.
package bits

import (
	"math/bits"

	"dailies/api"
)

// maxWidth is how many bits one Put or Get has at most.
const maxWidth = 32

// maxBytes is how many bytes a number of Big has at most.
const maxBytes = 8

// Writer lays bits down. The bits of the last byte, as long as it is not full, are held apart as a number, so that the full ones need not be touched again.
type Writer struct {
	full []byte
	held uint64
	few  int // bits in held: 0 to 7 between calls
}

// NewWriter makes one that has none.
func NewWriter() *Writer { return &Writer{} }

// Put lays the lowest n bits of a number down, the highest of them first.
func (w *Writer) Put(v uint32, n int) api.Errno {
	if n < 0 || n > maxWidth {
		return api.ErrBitsWidth
	}
	if !fits(v, n) {
		return api.ErrBitsValue
	}
	w.held = w.held<<n | uint64(v)
	w.few += n
	whole := w.few / 8
	w.few %= 8
	w.full = appendBig(w.full, w.held>>w.few, whole)
	w.held = lowest(w.held, w.few)
	return api.OK
}

// Len tells how many bits there are.
func (w *Writer) Len() int { return 8*len(w.full) + w.few }

// Bytes are all bits, filled up with noughts.
func (w *Writer) Bytes() []byte {
	all := make([]byte, (w.Len()+7)/8)
	copy(all, w.full)
	if w.few > 0 {
		all[len(w.full)] = byte(w.held << (8 - w.few))
	}
	return all
}

// Reader takes bits from the front.
type Reader struct {
	bytes []byte
	taken int // bits
}

// NewReader makes one over some bytes. It has its own copy of them: the caller may write into his.
func NewReader(b []byte) *Reader {
	own := make([]byte, len(b))
	copy(own, b)
	return &Reader{bytes: own}
}

// Get takes n bits.
func (r *Reader) Get(n int) (uint32, api.Errno) {
	if n < 0 || n > maxWidth {
		return 0, api.ErrBitsWidth
	}
	if n > r.Left() {
		return 0, api.ErrBitsEnd
	}
	v := r.next(n)
	r.taken += n
	return v, api.OK
}

// Zeros takes noughts up to a one, and that, or so many noughts as may be.
func (r *Reader) Zeros(most int) (int, api.Errno) {
	if most < 0 || most > maxWidth {
		return 0, api.ErrBitsWidth
	}
	seen := min(most, r.Left())
	// A number of n digits begins with as many noughts as it has fewer digits than n.
	noughts := seen - bits.Len32(r.next(seen))
	switch {
	case noughts < seen:
		r.taken += noughts + 1
	case seen < most:
		return 0, api.ErrBitsEnd
	default:
		r.taken += noughts
	}
	return noughts, api.OK
}

// Left tells how many bits are left.
func (r *Reader) Left() int { return 8*len(r.bytes) - r.taken }

// Rest looks whether no more than filling is left.
func (r *Reader) Rest() api.Errno {
	left := r.Left()
	if left >= 8 || r.next(left) != 0 {
		return api.ErrBitsRest
	}
	return api.OK
}

// next is the number in the next n bits, which stay. The caller has seen to it that n is 0 to 32 and that so many are left.
func (r *Reader) next(n int) uint32 {
	end := r.taken + n
	last := (end + 7) / 8
	// 32 bits touch five bytes at most, which a number of 64 bits has room for.
	v := joined[uint64](r.bytes[r.taken/8 : last])
	return uint32(lowest(v>>(8*last-end), n))
}

// Big is a number in so many bytes, the highest first.
func Big(n uint64, bytes int) ([]byte, api.Errno) {
	if bytes < 1 || bytes > maxBytes {
		return nil, api.ErrBitsWidth
	}
	if !fits(n, 8*bytes) {
		return nil, api.ErrBitsValue
	}
	return appendBig(make([]byte, 0, bytes), n, bytes), api.OK
}

// Number reads such bytes.
func Number(b []byte) (uint64, api.Errno) {
	if len(b) < 1 || len(b) > maxBytes {
		return 0, api.ErrBitsWidth
	}
	return joined[uint64](b), api.OK
}

// unsigned are the kinds of numbers that are laid down and taken.
type unsigned interface {
	~uint16 | ~uint32 | ~uint64
}

// fits says whether a number has no more than so many binary digits. Of a width that its kind has, or more, each one fits, since such a shift leaves nothing.
func fits[T unsigned](v T, width int) bool { return v>>width == 0 }

// lowest is what the lowest so many bits of a number are.
func lowest[T unsigned](v T, width int) T { return v & (T(1)<<width - 1) }

// appendBig puts the lowest so many bytes of a number behind others, the highest first.
func appendBig[T unsigned](to []byte, v T, bytes int) []byte {
	for i := range bytes {
		to = append(to, byte(v>>(8*(bytes-1-i))))
	}
	return to
}

// joined is the number that bytes are, the highest first.
func joined[T unsigned](b []byte) T {
	var v T
	for _, x := range b {
		v = v<<8 | T(x)
	}
	return v
}
