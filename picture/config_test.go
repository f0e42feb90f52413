package picture_test

import (
	"fmt"
	"math"
	"slices"
	"testing"

	"dailies/api"
	"dailies/picture"
)

var (
	square = api.Shape{Width: 16, Height: 16, Depth: 10}
	wideA  = api.Shape{Width: 48, Height: 32, Depth: 12, Alpha: true}
	plain  = api.Config{SliceW: 16, SliceH: 16, Ladder: []api.Rung{{}}}
)

// with is a configuration that is another one in some way.
func with(c api.Config, change func(c *api.Config)) api.Config {
	c.Ladder = slices.Clone(c.Ladder)
	change(&c)
	return c
}

// ladderOf has so many rungs.
func ladderOf(n int) []api.Rung {
	list := make([]api.Rung, n)
	for i := range list {
		list[i] = api.Rung{i, i, i}
	}
	return list
}

// wrongShapes may not be.
func wrongShapes() []api.Shape {
	list := []api.Shape{{}, {Width: 16, Height: 16}, {Width: 16, Height: 16, Depth: 11}, {Width: 0, Height: 16, Depth: 10}, {Width: 4097, Height: 1, Depth: 10}, {Width: 4096, Height: 1024, Depth: 10}, {Width: 16, Height: 4097, Depth: 12, Alpha: true}}
	for _, n := range odd() {
		list = append(list, api.Shape{Width: n, Height: 16, Depth: 10}, api.Shape{Width: 16, Height: n, Depth: 10}, api.Shape{Width: 16, Height: 16, Depth: n})
	}
	return list
}

// wrongConfigs may not be for square.
func wrongConfigs() []api.Config {
	list := []api.Config{
		{},
		{SliceW: 16, SliceH: 16},
		{SliceW: 16, SliceH: 16, Ladder: []api.Rung{}},
		{SliceW: 16, SliceH: 16, Ladder: ladderOf(17)},
		{SliceW: 16, SliceH: 16, Ladder: ladderOf(100)},
	}
	sides := append(odd(), 0, 1, 14, 15, 17, 19, 4095, 4097, 4098, 65536+16)
	for _, n := range sides {
		list = append(list, with(plain, func(c *api.Config) { c.SliceW = n }))
		if n != 17 && n != 19 && n != 4095 {
			list = append(list, with(plain, func(c *api.Config) { c.SliceH = n }))
		}
	}
	for _, d := range append(odd(), 64, 65, 255, 256) {
		for p := range 4 {
			list = append(list, with(plain, func(c *api.Config) { c.Ladder[0][p] = d }))
			list = append(list, with(plain, func(c *api.Config) { c.Ladder = ladderOf(16); c.Ladder[15][p] = d }))
		}
	}
	for _, d := range []int{1, 2, 63} { // there is no Alpha
		list = append(list, with(plain, func(c *api.Config) { c.Ladder[0][api.Alpha] = d }))
		list = append(list, with(plain, func(c *api.Config) { c.Ladder = ladderOf(9); c.Ladder[4][api.Alpha] = d }))
	}
	for _, n := range []int{-1, -2, math.MinInt32, math.MinInt} {
		list = append(list, with(plain, func(c *api.Config) { c.Cap = n }))
	}
	for _, n := range append(odd(), 17, 18, 255, 256, 257) {
		list = append(list, with(plain, func(c *api.Config) { c.Parity = n }))
	}
	return list
}

// rightConfigs may be for square, and for every shape of no more than 200 slices.
func rightConfigs() []api.Config {
	var list []api.Config
	for _, n := range []int{16, 18, 4094, 4096} {
		list = append(list, with(plain, func(c *api.Config) { c.SliceW = n }))
	}
	for _, n := range []int{16, 17, 18, 4095, 4096} {
		list = append(list, with(plain, func(c *api.Config) { c.SliceH = n }))
	}
	for _, n := range []int{1, 2, 15, 16} {
		list = append(list, with(plain, func(c *api.Config) { c.Ladder = ladderOf(n) }))
	}
	for _, d := range []int{0, 1, 62, 63} {
		for p := range 3 {
			list = append(list, with(plain, func(c *api.Config) { c.Ladder[0][p] = d }))
		}
	}
	for _, n := range []int{0, 1, 31, 1 << 27, math.MaxInt} {
		list = append(list, with(plain, func(c *api.Config) { c.Cap = n }))
	}
	for _, n := range []int{0, 1, 15, 16} {
		list = append(list, with(plain, func(c *api.Config) { c.Parity = n }))
	}
	return list
}

func TestValid(t *testing.T) {
	for _, c := range rightConfigs() {
		for _, s := range []api.Shape{square, wideA, {Width: 1, Height: 1, Depth: 10}} {
			if e := picture.Valid(c, s); e != api.OK || !configIs(c, s) {
				t.Error(c, s, e)
			}
		}
	}
	for _, c := range wrongConfigs() {
		if e := picture.Valid(c, square); e != api.ErrPictureConfig || configIs(c, square) {
			t.Error(c, e)
		}
	}
	for _, s := range wrongShapes() { // the shape is asked first
		for _, c := range append(wrongConfigs(), plain) {
			if e := picture.Valid(c, s); e != api.ErrPlaneShape {
				t.Fatal(c, s, e)
			}
		}
	}
}

// The tolerance of Alpha is asked like the others, where there is Alpha.
func TestValidAlpha(t *testing.T) {
	for _, d := range []int{-1, 0, 1, 63, 64} {
		c := with(plain, func(c *api.Config) { c.Ladder = append(c.Ladder, api.Rung{1, 1, 1, d}) })
		want, without := api.OK, api.ErrPictureConfig
		if d < 0 || d > 63 {
			want = api.ErrPictureConfig
		}
		if d == 0 {
			without = api.OK
		}
		if e := picture.Valid(c, wideA); e != want {
			t.Error(d, e)
		}
		if e := picture.Valid(c, square); e != without {
			t.Error(d, "without Alpha", e)
		}
	}
}

// manyShapes have 200 and 201 slices of 16 by 16.
var (
	shape200 = api.Shape{Width: 320, Height: 160, Depth: 10}
	shape201 = api.Shape{Width: 48, Height: 67 * 16, Depth: 10}
)

func TestValidParityOfManySlices(t *testing.T) {
	for _, x := range []struct {
		s    api.Shape
		p    int
		want api.Errno
	}{
		{shape200, -1, api.ErrPictureConfig}, {shape200, 0, api.OK}, {shape200, 1, api.OK}, {shape200, 16, api.OK}, {shape200, 17, api.ErrPictureConfig},
		{shape201, -1, api.ErrPictureConfig}, {shape201, 0, api.OK}, {shape201, 1, api.ErrPictureConfig}, {shape201, 16, api.ErrPictureConfig},
	} {
		c := with(plain, func(c *api.Config) { c.Parity = x.p })
		if e := picture.Valid(c, x.s); e != x.want {
			t.Error(x, e)
		}
		if n, e := picture.Bound(x.s, c); e != x.want || e == api.OK && n != boundOf(x.s, c) || e != api.OK && n != 0 {
			t.Error(x, n, e)
		}
		// Slices that are as wide as they may be are few again.
		c.SliceW = 4096
		if e := picture.Valid(c, x.s); x.p >= 0 && x.p <= 16 && e != api.OK {
			t.Error(x, e)
		}
	}
}

// All shapes of small sides by sides of slices, with every number of parity rows.
func TestValidAndBoundByWords(t *testing.T) {
	c := chance(1)
	for range 3000 {
		s := api.Shape{Width: 1 + c.below(400), Height: 1 + c.below(300), Depth: 10 + 2*c.below(2), Alpha: c.below(2) == 0}
		k := api.Config{SliceW: 14 + c.below(60), SliceH: 14 + c.below(60), Ladder: ladderOf(c.below(19)), Cap: c.below(9) - 1, Parity: c.below(20) - 1}
		want, bound := api.ErrPictureConfig, 0
		if configIs(k, s) {
			want, bound = api.OK, boundOf(s, k)
		}
		if e := picture.Valid(k, s); e != want {
			t.Fatal(k, s, e)
		}
		if n, e := picture.Bound(s, k); n != bound || e != want {
			t.Fatal(k, s, n, e, bound)
		}
	}
}

func TestBound(t *testing.T) {
	two := with(plain, func(c *api.Config) { c.Parity = 2 })
	most := api.Config{SliceW: 4096, SliceH: 4096, Ladder: ladderOf(1), Parity: 16}
	for _, x := range []struct {
		s api.Shape
		c api.Config
		n int
	}{
		{square, plain, 696},
		{square, two, 2008},
		{api.Shape{Width: 1, Height: 1, Depth: 10}, plain, 36 + 8 + 3*(4+2)},
		{api.Shape{Width: 1, Height: 1, Depth: 12, Alpha: true}, two, 36 + 8 + 8 + 3*4*(4+2)},
		// The greatest one: as many samples, bits and parity rows as may be, in one slice.
		{api.Shape{Width: 2048, Height: 1024, Depth: 12}, most, 36 + 8 + 64 + 17*(12+6291456)},
		{api.Shape{Width: 4096, Height: 512, Depth: 12}, plain, 36 + 8*8192 + 8192*(12+768)},
	} {
		if n, e := picture.Bound(x.s, x.c); n != x.n || e != api.OK || n > 134217727 {
			t.Error(x.s, x.c, n, e)
		}
	}
	for _, c := range rightConfigs() { // the ladder and the cap have no part in it
		if n, e := picture.Bound(wideA, c); n != boundOf(wideA, c) || e != api.OK {
			t.Error(c, n, e)
		}
	}
	for _, c := range wrongConfigs() {
		if n, e := picture.Bound(square, c); n != 0 || e != api.ErrPictureConfig {
			t.Error(c, n, e)
		}
		for _, s := range wrongShapes() {
			if n, e := picture.Bound(s, c); n != 0 || e != api.ErrPlaneShape {
				t.Fatal(fmt.Sprint(c, s, n, e))
			}
		}
	}
}
