package picture

import (
	"dailies/api"
	"dailies/plane"
	"dailies/tile"
)

// cut is the grid by which a configuration cuts frames of a shape, if it may be for it.
func cut(s api.Shape, c api.Config) (*tile.Grid, api.Errno) {
	if e := plane.Shaped(s); e != api.OK {
		return nil, e
	}
	// A configuration's sides are those that tile takes.
	grid, e := tile.New(s, c.SliceW, c.SliceH)
	if e != api.OK {
		return nil, api.ErrPictureConfig
	}
	if !ladderMayBe(c.Ladder, s) || c.Cap < 0 || !parityMayBe(c.Parity, grid.Count()) {
		return nil, api.ErrPictureConfig
	}
	return grid, api.OK
}

// ladderMayBe tells whether frames of a shape may be coded by these rungs.
func ladderMayBe(ladder []api.Rung, s api.Shape) bool {
	if len(ladder) < 1 || len(ladder) > api.MaxLadder {
		return false
	}
	for _, rung := range ladder {
		if !rungMayBe(rung, s) {
			return false
		}
	}
	return true
}

// rungMayBe tells whether frames of a shape may be coded by this rung.
func rungMayBe(rung api.Rung, s api.Shape) bool {
	for _, tolerance := range rung {
		if tolerance < 0 || tolerance > api.MaxTolerance {
			return false
		}
	}
	return s.Alpha || rung[api.Alpha] == 0
}

// parityMayBe tells whether so many slices may have so many parity rows.
func parityMayBe(rows, slices int) bool {
	if rows < 0 || rows > api.MaxParity {
		return false
	}
	return rows == 0 || slices <= api.MaxRows
}
