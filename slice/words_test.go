package slice_test

import (
	"bytes"
	"slices"
	"strings"
	"testing"

	"dailies/api"
	"dailies/bits"
	"dailies/golomb"
	"dailies/model"
	"dailies/slice"
)

// chance tells numbers that look as if by chance, the same ones each time.
type chance uint64

func (c *chance) below(n int) int {
	*c = *c*6364136223846793005 + 1442695040888963407
	return int(uint64(*c)>>33) % n
}

// tolerances are those of the tests that go through blocks: the least, the greatest, and some between.
func tolerances() []int { return []int{0, 1, 2, 7, 31, 62, 63} }

func blockOf(w int, samples ...uint16) api.Block {
	return api.Block{W: w, H: len(samples) / w, Samples: samples}
}

func sameBlock(a, b api.Block) bool {
	return a.W == b.W && a.H == b.H && slices.Equal(a.Samples, b.Samples)
}

// seen counts which of the chapter's ways a block was gone through.
type seen struct{ none, within, filled, plus, minus, rawly int }

func (s *seen) add(o seen) {
	s.none, s.within, s.filled = s.none+o.none, s.within+o.within, s.filled+o.filled
	s.plus, s.minus, s.rawly = s.plus+o.plus, s.minus+o.minus, s.rawly+o.rawly
}

// words is what the chapter says of one block's way, word by word, in a grid of its own: what came back, row by row.
type words struct {
	w, h, depth, d int
	model          *model.Model
	runs           *golomb.Runs
	back           [][]int
	seen           seen
}

func wordsOf(t *testing.T, w, h, depth, d int) *words {
	t.Helper()
	m, e := model.New(depth, d)
	if e != api.OK {
		t.Fatal(depth, d, e)
	}
	k := &words{w: w, h: h, depth: depth, d: d, model: m, runs: golomb.NewRuns()}
	for range h {
		k.back = append(k.back, make([]int, w))
	}
	return k
}

func (k *words) neighbours(x, y int) (a, b, c, e int) {
	switch {
	case x == 0 && y == 0:
		a = []int{10: 512, 12: 2048}[k.depth]
	case x == 0:
		a = k.back[y-1][x]
	default:
		a = k.back[y][x-1]
	}
	b = a
	if y > 0 {
		b = k.back[y-1][x]
	}
	c, e = b, b
	if x > 0 && y > 0 {
		c = k.back[y-1][x-1]
	}
	if x+1 < k.w && y > 0 {
		e = k.back[y-1][x+1]
	}
	return a, b, c, e
}

// came is what came back, as a block.
func (k *words) came() api.Block {
	b := api.Block{W: k.w, H: k.h}
	for _, row := range k.back {
		for _, v := range row {
			b.Samples = append(b.Samples, uint16(v))
		}
	}
	return b
}

func far(a, b int) int { return max(a-b, b-a) }

// code lays a block's samples down.
func (k *words) code(t *testing.T, in api.Block, w *bits.Writer) {
	t.Helper()
	sound := func(e api.Errno) {
		if e != api.OK {
			t.Fatal(e)
		}
	}
	for y := range k.h {
		row := in.Samples[y*k.w : (y+1)*k.w]
		for x := 0; x < k.w; x++ {
			a, b, c, e := k.neighbours(x, y)
			context, s := k.model.Find(a, b, c, e)
			if context != 0 {
				p := k.model.Guess(context, s, a, b, c)
				q := k.model.Shrink(s * (int(row[x]) - p))
				f, _ := golomb.Fold(q)
				sound(golomb.Put(w, f, k.model.Param(context), k.model.Wide()))
				k.model.Learn(context, q)
				k.back[y][x] = k.model.Grow(p, s*q)
				k.seen.sign(s)
				continue
			}
			n, room := 0, k.w-x
			for x < k.w && far(int(row[x]), a) <= k.d {
				k.back[y][x] = a
				n, x = n+1, x+1
			}
			sound(k.runs.Put(w, n, room))
			k.seen.run(n, room)
			if n < room {
				q := k.model.Shrink(int(row[x]) - a)
				f, _ := golomb.Fold(q)
				sound(golomb.Put(w, f-1, k.model.Param(0), k.model.Wide()))
				k.model.Learn(0, q)
				k.back[y][x] = k.model.Grow(a, q)
			}
		}
	}
}

func (s *seen) sign(g int) {
	if g < 0 {
		s.minus++
	} else {
		s.plus++
	}
}

func (s *seen) run(n, room int) {
	switch n {
	case 0:
		s.none++
	case room:
		s.filled++
	default:
		s.within++
	}
}

// encode is what Encode and Settle should tell.
func encode(t *testing.T, in api.Block, depth, d int) ([]byte, api.Block, seen) {
	t.Helper()
	k := wordsOf(t, in.W, in.H, depth, d)
	short, whole := bits.NewWriter(), bits.NewWriter()
	short.Put(1, 8)
	k.code(t, in, short)
	whole.Put(0, 8)
	for _, v := range in.Samples {
		whole.Put(uint32(v), depth)
	}
	if len(short.Bytes()) < len(whole.Bytes()) {
		return short.Bytes(), k.came(), k.seen
	}
	return whole.Bytes(), blockOf(in.W, slices.Clone(in.Samples)...), seen{rawly: 1}
}

// folded is the number whose Fold is f, found by trying.
func folded(f int) int {
	for q := 0; ; q++ {
		if v, _ := golomb.Fold(q); v == f {
			return q
		}
		if v, _ := golomb.Fold(-q); v == f {
			return -q
		}
	}
}

// take takes a block's samples up; false, if the bits are none.
func (k *words) take(r *bits.Reader) bool {
	for y := range k.h {
		for x := 0; x < k.w; x++ {
			a, b, c, e := k.neighbours(x, y)
			context, s := k.model.Find(a, b, c, e)
			p, less := 0, 0
			if context != 0 {
				p = k.model.Guess(context, s, a, b, c)
			} else {
				n, errno := k.runs.Get(r, k.w-x)
				if errno != api.OK {
					return false
				}
				for range n {
					k.back[y][x] = a
					x++
				}
				if x == k.w {
					break
				}
				p, less = a, 1
			}
			f, errno := golomb.Get(r, k.model.Param(context), k.model.Wide())
			if errno != api.OK || f+less >= k.model.Range() {
				return false
			}
			q := folded(f + less)
			k.model.Learn(context, q)
			k.back[y][x] = k.model.Grow(p, s*q)
		}
	}
	return true
}

// decode is what Decode should tell.
func decode(t *testing.T, s []byte, w, h, depth, d int) (api.Block, api.Errno) {
	t.Helper()
	k := wordsOf(t, w, h, depth, d)
	if len(s) == 0 || s[0] > 1 {
		return api.Block{}, api.ErrSliceForm
	}
	r := bits.NewReader(s[1:])
	if s[0] == 1 && !k.take(r) {
		return api.Block{}, api.ErrSliceForm
	}
	for i := 0; s[0] == 0 && i < w*h; i++ {
		v, e := r.Get(depth)
		if e != api.OK {
			return api.Block{}, api.ErrSliceForm
		}
		k.back[i/w][i%w] = int(v)
	}
	for r.Left()%8 != 0 {
		if bit, _ := r.Get(1); bit != 0 {
			return api.Block{}, api.ErrSliceForm
		}
	}
	if r.Left() > 0 {
		return api.Block{}, api.ErrSliceLong
	}
	return k.came(), api.OK
}

// kinds are samples that lead a coder through all of its ways; each is told by its place.
func kinds(c *chance, w, depth, d int) []func(i int) int {
	most := 1<<depth - 1
	base, slope := c.below(most+1), 1+c.below(2*d+5)
	spot := c.below(40)
	return []func(i int) int{
		func(i int) int { return c.below(most + 1) },                                       // chance
		func(i int) int { return base },                                                    // flat
		func(i int) int { return base + c.below(d+1) },                                     // flat within the tolerance
		func(i int) int { return base + c.below(2*d+3) - d - 1 },                           // flat, nearly
		func(i int) int { return c.below(2) * most },                                       // 0 and MAX
		func(i int) int { return i % w * slope },                                           // a slope along the rows
		func(i int) int { return base - i/w*slope },                                        // a slope down
		func(i int) int { return i%w*slope - i/w*(d+3) + base + c.below(3) },               // both, and a little chance
		func(i int) int { return base + i%w/3%2*(4*d+9) },                                  // stripes
		func(i int) int { return base + i/w/2%2*(4*d+9) },                                  // stripes across
		func(i int) int { return 1<<(depth-1) + i%40/max(spot, 1)%2*c.below(2)*(d+1+i%7) }, // flat at the middle, with spots
		func(i int) int { return []int{0, d, d + 1, most - d - 1, most - d, most}[c.below(6)] },
	}
}

// blocks tells blocks of many kinds.
func blocks(depth, d int, tell func(b api.Block)) {
	c := chance(100*depth + d)
	for _, size := range [][2]int{{1, 1}, {1, 2}, {2, 1}, {2, 2}, {1, 9}, {9, 1}, {3, 3}, {5, 4}, {16, 16}, {40, 11}, {130, 5}} {
		w, h := size[0], size[1]
		for _, rule := range kinds(&c, w, depth, d) {
			b := api.Block{W: w, H: h}
			for i := range w * h {
				b.Samples = append(b.Samples, uint16(rule(i))&(1<<depth-1))
			}
			tell(b)
		}
	}
}

// each tells blocks of both depths and several tolerances.
func each(tell func(b api.Block, depth, d int)) {
	for _, depth := range []int{10, 12} {
		for _, d := range tolerances() {
			blocks(depth, d, func(b api.Block) { tell(b, depth, d) })
		}
	}
}

func encoded(t *testing.T, b api.Block, depth, d int) []byte {
	t.Helper()
	s, e := slice.Encode(b, depth, d)
	if e != api.OK {
		t.Fatalf("Encode of %d by %d, depth %d, tolerance %d: %v", b.W, b.H, depth, d, e)
	}
	return s
}

func settled(t *testing.T, b api.Block, depth, d int) api.Block {
	t.Helper()
	s, e := slice.Settle(b, depth, d)
	if e != api.OK {
		t.Fatalf("Settle of %d by %d, depth %d, tolerance %d: %v", b.W, b.H, depth, d, e)
	}
	return s
}

// reads says that bytes are a block, and no other.
func reads(t *testing.T, s []byte, depth, d int, want api.Block) {
	t.Helper()
	got, e := slice.Decode(s, want.W, want.H, depth, d)
	if e != api.OK || !sameBlock(got, want) {
		t.Fatalf("Decode of %v, %d by %d, depth %d, tolerance %d: %v %v, not %v", s, want.W, want.H, depth, d, got, e, want)
	}
}

// refuses says that bytes are refused, and nothing is told.
func refuses(t *testing.T, s []byte, w, h, depth, d int, want api.Errno) {
	t.Helper()
	got, e := slice.Decode(s, w, h, depth, d)
	if e != want || got.W != 0 || got.H != 0 || len(got.Samples) != 0 {
		t.Fatalf("Decode of %v, %d by %d, depth %d, tolerance %d: %v %v, not %v", s, w, h, depth, d, got, e, want)
	}
}

// text are bytes whose first one is given, and then bits, told by noughts and ones (blanks do not count).
func text(first byte, digits string) []byte {
	digits = strings.ReplaceAll(digits, " ", "")
	digits += strings.Repeat("0", (8-len(digits)%8)%8)
	s := []byte{first}
	for i := 0; i < len(digits); i += 8 {
		var v byte
		for _, digit := range []byte(digits[i : i+8]) {
			v = 2*v + digit - '0'
		}
		s = append(s, v)
	}
	return s
}

// S2, S4: all blocks are told by the chapter's words, and the words are tried in all their ways.
func TestEncodeAndSettleByTheWords(t *testing.T) {
	all := map[int]*seen{}
	each(func(b api.Block, depth, d int) {
		want, came, ways := encode(t, b, depth, d)
		if got := encoded(t, b, depth, d); !bytes.Equal(got, want) {
			t.Fatalf("%v, depth %d, tolerance %d: %v, not %v", b, depth, d, got, want)
		}
		if got := settled(t, b, depth, d); !sameBlock(got, came) {
			t.Fatalf("%v, depth %d, tolerance %d: settles as %v, not %v", b, depth, d, got, came)
		}
		if all[d] == nil {
			all[d] = &seen{}
		}
		all[d].add(ways)
	})
	for d, s := range all {
		if s.none < 20 || s.within < 20 || s.filled < 20 || s.plus < 20 || s.minus < 20 || s.rawly < 4 {
			t.Error("a way is hardly tried, tolerance", d, *s)
		}
	}
}

// S3: what was encoded comes back as the words say.
func TestDecodeByTheWords(t *testing.T) {
	each(func(b api.Block, depth, d int) {
		s, came, _ := encode(t, b, depth, d)
		reads(t, s, depth, d, came)
		if again, e := decode(t, s, b.W, b.H, depth, d); e != api.OK || !sameBlock(again, came) {
			t.Fatal("the words do not agree", b, depth, d)
		}
	})
}
