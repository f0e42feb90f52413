package picture

import (
	"dailies/bits"
	"dailies/crc"
)

// sumSize is how many bytes a sum takes.
const sumSize = 4

// field is a number that stands in so many bytes.
type field struct{ number, bytes int }

// lay puts fields behind bytes, in their order.
func lay(to []byte, fields ...field) []byte {
	for _, f := range fields {
		// Whatever is laid down was looked at ahead, so that it fits.
		b, _ := bits.Big(uint64(f.number), f.bytes)
		to = append(to, b...)
	}
	return to
}

// sumOf is the sum of bytes as a field.
func sumOf(b []byte) field { return field{int(crc.Sum(b)), sumSize} }

// number is what so many bytes from a place on stand for.
func number(b []byte, at, bytes int) int {
	n, _ := bits.Number(b[at : at+bytes])
	return int(n)
}
