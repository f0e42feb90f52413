package pixel

import (
	"slices"

	"dailies/api"
	"dailies/bits"
)

// sampleBytes is how many a sample has by the planar format.
const sampleBytes = 2

// planar has all shapes, and each plane by itself.
func planar() format {
	return format{
		has:   func(api.Shape) bool { return true },
		sets:  eachPlane,
		bytes: func(width int) int { return sampleBytes * width },
		write: writePlanar,
		read:  readPlanar,
	}
}

// eachPlane is sets of one plane.
func eachPlane(s api.Shape) [][]int {
	sets := [][]int{{api.Luma}, {api.Blue}, {api.Red}}
	if s.Alpha {
		sets = append(sets, []int{api.Alpha})
	}
	return sets
}

func writePlanar(row [][]uint16) []byte {
	w := bits.NewWriter()
	for _, sample := range slices.Backward(row[0]) {
		w.Put(uint32(sample), 8*sampleBytes)
	}
	return backward(w.Bytes())
}

func readPlanar(row [][]uint16, b []byte) bool {
	r := bits.NewReader(backward(b))
	for x := range slices.Backward(row[0]) {
		sample, _ := r.Get(8 * sampleBytes)
		row[0][x] = uint16(sample)
	}
	return true
}
