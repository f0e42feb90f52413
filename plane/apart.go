package plane

import (
	"slices"

	"dailies/api"
)

// Same tells whether two frames are the same.
func Same(a api.Frame, b api.Frame) bool {
	if a.Shape != b.Shape || len(a.Planes) != len(b.Planes) {
		return false
	}
	for p, samples := range a.Planes {
		if !slices.Equal(samples, b.Planes[p]) {
			return false
		}
	}
	return true
}

// Apart is how far two frames are apart at most, plane by plane.
func Apart(a api.Frame, b api.Frame) (api.Rung, api.Errno) {
	if e := alike(a, b); e != api.OK {
		return api.Rung{}, e
	}
	var far api.Rung
	for p, samples := range a.Planes {
		for i, sample := range samples {
			far[p] = max(far[p], distance(sample, b.Planes[p][i]))
		}
	}
	return far, api.OK
}

// Error is the mean of the squares of how far they are apart.
func Error(a api.Frame, b api.Frame, plane int) (float64, api.Errno) {
	if e := alike(a, b); e != api.OK {
		return 0, e
	}
	if !there(a.Shape, plane) {
		return 0, api.ErrPlaneRect
	}
	// The sum stays below 2^45, so a float has it exactly.
	sum := int64(0)
	for i, sample := range a.Planes[plane] {
		d := int64(distance(sample, b.Planes[plane][i]))
		sum += d * d
	}
	return float64(sum) / float64(len(a.Planes[plane])), api.OK
}

// alike tells the first error of two frames that are to be held against each other.
func alike(a, b api.Frame) api.Errno {
	if e := Valid(a); e != api.OK {
		return e
	}
	if e := Valid(b); e != api.OK {
		return e
	}
	if a.Shape != b.Shape {
		return api.ErrPlaneShape
	}
	return api.OK
}

// distance is how far two samples are apart.
func distance(a, b uint16) int { return int(max(a, b) - min(a, b)) }
