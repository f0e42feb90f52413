package reel

import (
	"bytes"
	"iter"

	"dailies/api"
	"dailies/medium"
)

// chain tells the records of a medium of so many bytes from a place on, link by link; an error of the medium is the last that it tells.
func chain(m *medium.Medium, size int, from int) iter.Seq2[api.Receipt, api.Errno] {
	return func(tell func(api.Receipt, api.Errno) bool) {
		number, at := 0, from
	link:
		if number == api.MaxFrames || size-at < linkSize {
			return
		}
		b, e := m.Read(at, linkSize)
		if e != api.OK {
			tell(api.Receipt{}, e)
			return
		}
		record := api.Receipt{Number: number, At: at + linkSize, Length: linkLength(b)}
		// Whatever the link says must be what it would say of this record.
		if !bytes.Equal(b, linkBytes(number, record.Length)) || record.Length > size-record.At {
			return
		}
		if !tell(record, api.OK) {
			return
		}
		number, at = number+1, record.At+record.Length
		goto link
	}
}
