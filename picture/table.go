package picture

import (
	"slices"

	"dailies/api"
)

const (
	lengthSize = 4 // bytes of a payload's length
	entrySize  = lengthSize + sumSize
)

// TableSize tells how many bytes stand between the head and the first payload.
func TableSize(h api.Head) int {
	if !right(h) {
		return 0
	}
	return tableSize(h.Slices, h.Parity)
}

// Table reads the table behind a head: where the payloads lie, and behind them the parity rows.
func Table(h api.Head, b []byte) ([]api.Entry, api.Errno) {
	if !right(h) {
		return nil, api.ErrPictureHead
	}
	size := tableSize(h.Slices, h.Parity)
	if len(b) < size {
		return nil, api.ErrPictureTable
	}
	sums := size - sumSize
	if sumOf(b[:sums]).number != number(b, sums, sumSize) {
		return nil, api.ErrPictureTable
	}
	lengths := payloadLengths(b, h.Slices)
	if slices.Max(lengths) > maxPayload || recordLength(lengths, h.Parity) != h.Length {
		return nil, api.ErrPictureTable
	}
	return entries(h, b, lengths), api.OK
}

// payloadLengths are those of so many payloads, by a table.
func payloadLengths(b []byte, count int) []int {
	lengths := make([]int, count)
	for k := range lengths {
		lengths[k] = number(b, entrySize*k, lengthSize)
	}
	return lengths
}

// entries tell where payloads of these lengths lie, and the parity rows, each as long as the longest payload; and the sums that the table has of them.
func entries(h api.Head, b []byte, lengths []int) []api.Entry {
	list := make([]api.Entry, 0, h.Slices+h.Parity)
	at := headSize + tableSize(h.Slices, h.Parity)
	add := func(length, place int) {
		list = append(list, api.Entry{At: at, Length: length, Sum: uint32(number(b, place, sumSize))})
		at += length
	}
	for k, length := range lengths {
		add(length, entrySize*k+lengthSize)
	}
	for i := range h.Parity {
		add(slices.Max(lengths), entrySize*h.Slices+sumSize*i)
	}
	return list
}

// tableBytes are those of the table of these payloads and parity rows.
func tableBytes(payloads, rows [][]byte) []byte {
	var b []byte
	for _, payload := range payloads {
		b = lay(b, field{len(payload), lengthSize}, sumOf(payload))
	}
	for _, row := range rows {
		b = lay(b, sumOf(row))
	}
	return lay(b, sumOf(b))
}

// tableSize is how many bytes a table of so many payloads and parity rows has.
func tableSize(payloads, rows int) int {
	return entrySize*payloads + sumSize*rows + sumSize
}

// recordLength is how many bytes a record has by its payloads' lengths, of which there is one at least.
func recordLength(lengths []int, rows int) int {
	total := headSize + tableSize(len(lengths), rows)
	for _, length := range lengths {
		total += length
	}
	return total + rows*slices.Max(lengths)
}
