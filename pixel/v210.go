package pixel

import (
	"dailies/api"
	"dailies/bits"
)

const (
	v210Depth = 10 // also how many bits a sample has in a word
	wordHas   = 3  // samples
	wordBits  = 32
	stepBytes = 128 // a row's bytes are a multiple of it
	stepWide  = 48  // as many pixels
)

// spot is a sample of a group: its plane, its number among those of the group, and how many of its plane each group has.
type spot struct{ plane, number, each int }

// group has the samples of a group, word by word, of each word the lowest first.
var group = [12]spot{
	{api.Blue, 0, 3}, {api.Luma, 0, 6}, {api.Red, 0, 3},
	{api.Luma, 1, 6}, {api.Blue, 1, 3}, {api.Luma, 2, 6},
	{api.Red, 1, 3}, {api.Luma, 3, 6}, {api.Blue, 2, 3},
	{api.Luma, 4, 6}, {api.Red, 2, 3}, {api.Luma, 5, 6},
}

// v210 has the three planes together in each row.
func v210() format {
	return format{
		has:   func(s api.Shape) bool { return s.Depth == v210Depth && !s.Alpha },
		sets:  func(api.Shape) [][]int { return [][]int{{api.Luma, api.Blue, api.Red}} },
		bytes: bytesV210,
		write: writeV210,
		read:  readV210,
	}
}

func bytesV210(width int) int { return (width + stepWide - 1) / stepWide * stepBytes }

// writeV210 takes the bytes behind a row's groups for groups, too: all their samples are beyond the row, which makes them 0.
func writeV210(row [][]uint16) []byte {
	w := bits.NewWriter()
	for n := bytesV210(len(row[0]))*8/wordBits - 1; n >= 0; n-- {
		word := uint32(0)
		for k := range wordHas {
			if p, x := where(wordHas*n + k); x < len(row[p]) {
				word |= uint32(row[p][x]) << (v210Depth * k)
			}
		}
		w.Put(word, wordBits)
	}
	return backward(w.Bytes())
}

// readV210 takes the row's samples out of each word: what is left must be 0, be it a sample beyond the row or the bits above all three.
func readV210(row [][]uint16, b []byte) bool {
	r := bits.NewReader(backward(b))
	for n := len(b)*8/wordBits - 1; n >= 0; n-- {
		word, _ := r.Get(wordBits)
		for k := range wordHas {
			if p, x := where(wordHas*n + k); x < len(row[p]) {
				mine := word & ((1<<v210Depth - 1) << (v210Depth * k))
				row[p][x] = uint16(mine >> (v210Depth * k))
				word -= mine
			}
		}
		if word != 0 {
			return false
		}
	}
	return true
}

// where is the plane, and the place in its row, of the sample that stands behind i others.
func where(i int) (int, int) {
	at := group[i%len(group)]
	return at.plane, i/len(group)*at.each + at.number
}
