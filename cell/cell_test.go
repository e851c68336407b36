package cell_test

import (
	"math"
	"slices"
	"testing"

	"linguist/api"
	"linguist/cell"
)

const none = uint64(math.MaxUint64)

// ranges are P2.1's, in its order, with their widths.
var ranges = []struct {
	first, last rune
	width       int
}{
	{math.MinInt32, 31, 0}, {127, 159, 0}, {0x300, 0x36F, 0}, {0xD800, 0xDFFF, 0},
	{api.MaxRune + 1, math.MaxInt32, 0},
	{0x1100, 0x115F, 2}, {0x2E80, 0xA4CF, 2}, {0xAC00, 0xD7A3, 2}, {0xF900, 0xFAFF, 2},
	{0xFE30, 0xFE6F, 2}, {0xFF00, 0xFF60, 2}, {0xFFE0, 0xFFE6, 2}, {0x1F300, 0x1FAFF, 2},
	{0x20000, 0x3FFFD, 2},
}

// colors are the edges of what a colour may be, and colours between them.
var colors = []int{
	api.Default, 0, 1, 7, 128, 254, 255,
	api.Direct, api.Direct + 1, api.Direct + 0x123456, 2*api.Direct - 2, 2*api.Direct - 1,
}

// strangeColors are the numbers beside those edges, and the ends of int.
var strangeColors = []int{
	math.MinInt, math.MinInt + 1, -api.Direct, -256, -3, -2,
	256, 257, api.Direct - 2, api.Direct - 1,
	2 * api.Direct, 2*api.Direct + 1, 4*api.Direct - 2, 4*api.Direct - 1, 4 * api.Direct,
	math.MaxInt - 1, math.MaxInt,
}

var (
	someFlags    = []int{0, 1, 2, 127, 128, 254, 255}
	strangeFlags = []int{math.MinInt, -256, -1, 256, 257, 511, 1 << 16, math.MaxInt}
)

// allRight gives each pen made of these colours and flags.
func allRight() (pens []api.Pen) {
	for _, fore := range colors {
		for _, back := range colors {
			for _, flags := range someFlags {
				pens = append(pens, api.Pen{Fore: fore, Back: back, Flags: flags})
			}
		}
	}
	return pens
}

// notRight gives pens that are wrong in one place each, and in all three.
func notRight() (pens []api.Pen) {
	for _, p := range []api.Pen{cell.Plain(), {}, {Fore: 255, Back: 2*api.Direct - 1, Flags: 255}} {
		for _, c := range strangeColors {
			pens = append(pens,
				api.Pen{Fore: c, Back: p.Back, Flags: p.Flags},
				api.Pen{Fore: p.Fore, Back: c, Flags: p.Flags},
				api.Pen{Fore: c, Back: c, Flags: -1})
		}
		for _, f := range strangeFlags {
			pens = append(pens, api.Pen{Fore: p.Fore, Back: p.Back, Flags: f})
		}
	}
	return pens
}

// parts is the number of these three, side by side, whatever they are.
func parts(flags, fore, back uint64) uint64 { return flags + fore*256 + back*256*(1<<26) }

// P2.1: each range's first and last rune, and the ones beside them.
func TestWidthAtEdges(t *testing.T) {
	for _, q := range []struct {
		r    rune
		want int
	}{
		{math.MinInt32, 0}, {-1, 0}, {0, 0}, {27, 0}, {31, 0}, {32, 1}, {'a', 1}, {126, 1},
		{127, 0}, {128, 0}, {159, 0}, {160, 1}, {0xE4, 1},
		{0x2FF, 1}, {0x300, 0}, {0x301, 0}, {0x36F, 0}, {0x370, 1},
		{0x10FF, 1}, {0x1100, 2}, {0x115F, 2}, {0x1160, 1},
		{0x2500, 1}, {0x2E7F, 1}, {0x2E80, 2}, {0x4E00, 2}, {0xA4CF, 2}, {0xA4D0, 1},
		{0xABFF, 1}, {0xAC00, 2}, {0xD7A3, 2}, {0xD7A4, 1},
		{0xD7FF, 1}, {0xD800, 0}, {0xDBFF, 0}, {0xDC00, 0}, {0xDFFF, 0}, {0xE000, 1},
		{0xF8FF, 1}, {0xF900, 2}, {0xFAFF, 2}, {0xFB00, 1},
		{0xFE2F, 1}, {0xFE30, 2}, {0xFE6F, 2}, {0xFE70, 1},
		{0xFEFF, 1}, {0xFF00, 2}, {0xFF60, 2}, {0xFF61, 1},
		{0xFFDF, 1}, {0xFFE0, 2}, {0xFFE6, 2}, {0xFFE7, 1}, {api.Bad, 1}, {0xFFFF, 1}, {0x10000, 1},
		{0x1F2FF, 1}, {0x1F300, 2}, {0x1F600, 2}, {0x1FAFF, 2}, {0x1FB00, 1},
		{0x1FFFF, 1}, {0x20000, 2}, {0x3FFFD, 2}, {0x3FFFE, 1},
		{0x10FFFE, 1}, {api.MaxRune, 1}, {api.MaxRune + 1, 0}, {math.MaxInt32, 0},
	} {
		if got := cell.Width(q.r); got != q.want {
			t.Errorf("%X: %d, not %d", q.r, got, q.want)
		}
	}
}

// P2.1: every rune, and numbers on both sides that are none.
func TestWidthOfAll(t *testing.T) {
	for r := rune(-0x1000); r <= api.MaxRune+0x1000; r++ {
		want := 1
		for _, s := range ranges {
			if r >= s.first && r <= s.last {
				want = s.width
			}
		}
		if got := cell.Width(r); got != want {
			t.Fatalf("%X: %d, not %d", r, got, want)
		}
	}
}

// P2.2: right in all three places, and wrong in one at a time.
func TestRight(t *testing.T) {
	for _, p := range allRight() {
		if !cell.Right(p) {
			t.Error(p)
		}
	}
	for _, p := range notRight() {
		if cell.Right(p) {
			t.Error(p)
		}
	}
}

// P2.2: every number about the edges, as either colour and as flags.
func TestRightAboutEdges(t *testing.T) {
	for _, middle := range []int{0, 256, api.Direct, 2 * api.Direct} {
		for n := middle - 300; n <= middle+300; n++ {
			color := n == -1 || n >= 0 && n <= 255 || n >= 16777216 && n <= 33554431
			if cell.Right(api.Pen{Fore: n}) != color || cell.Right(api.Pen{Back: n}) != color {
				t.Error("colour", n)
			}
			if cell.Right(api.Pen{Flags: n}) != (n >= 0 && n <= 255) {
				t.Error("flags", n)
			}
		}
	}
}

// P2.2: Default twice, no flags, and that is right.
func TestPlain(t *testing.T) {
	p := cell.Plain()
	if p != (api.Pen{Fore: api.Default, Back: api.Default}) || !cell.Right(p) {
		t.Error(p)
	}
}

// P2.2: With puts flags to what is there, and touches nothing else.
func TestWith(t *testing.T) {
	red := api.Pen{Fore: 1, Back: api.Direct, Flags: api.Bold}
	for _, q := range []struct {
		p     api.Pen
		flags []int
		want  int
	}{
		{red, nil, api.Bold},
		{red, []int{}, api.Bold},
		{red, []int{0}, api.Bold},
		{red, []int{api.Bold}, api.Bold},
		{red, []int{api.Under}, api.Bold | api.Under},
		{red, []int{api.Under, api.Under}, api.Bold | api.Under},
		{red, []int{api.Strike, api.Bold, api.Dim}, api.Strike | api.Bold | api.Dim},
		{red, []int{api.Dim | api.Italic, api.Italic | api.Blink}, api.Bold | api.Dim | api.Italic | api.Blink},
		{cell.Plain(), []int{api.Bold, api.Dim, api.Italic, api.Under, api.Blink, api.Inverse, api.Hidden, api.Strike}, 255},
		{cell.Plain(), []int{255}, 255},
		{cell.Plain(), []int{256}, 256},
		{cell.Plain(), []int{-1}, -1},
		{api.Pen{Fore: -7, Back: 256, Flags: 512}, nil, 512},
		{api.Pen{Fore: -7, Back: 256, Flags: 512}, []int{api.Bold}, 513},
		{api.Pen{Fore: math.MinInt, Back: math.MaxInt, Flags: -1}, []int{api.Bold}, -1},
	} {
		want := api.Pen{Fore: q.p.Fore, Back: q.p.Back, Flags: q.want}
		if got := cell.With(q.p, q.flags...); got != want {
			t.Errorf("%v, %v: %v, not %v", q.p, q.flags, got, want)
		}
	}
}

// R2: the flags that are handed in stay, and so does the pen.
func TestWithChangesNothing(t *testing.T) {
	room := []int{api.Bold, api.Under, 7, 8}
	p := cell.Plain()
	cell.With(p, room[:2]...)
	if !slices.Equal(room, []int{api.Bold, api.Under, 7, 8}) || p != cell.Plain() {
		t.Error(room, p)
	}
}

// P2.3: where each part stands, the plain pen, and the greatest one.
func TestPack(t *testing.T) {
	for _, q := range []struct {
		p    api.Pen
		want uint64
	}{
		{cell.Plain(), 0},
		{api.Pen{Fore: -1, Back: -1, Flags: 1}, 1},
		{api.Pen{Fore: -1, Back: -1, Flags: 255}, 255},
		{api.Pen{Fore: 0, Back: -1}, 1 << 8},
		{api.Pen{Fore: 255, Back: -1}, 256 << 8},
		{api.Pen{Fore: api.Direct, Back: -1}, (1<<24 + 1) << 8},
		{api.Pen{Fore: 2*api.Direct - 1, Back: -1}, 1 << 33},
		{api.Pen{Fore: -1, Back: 0}, 1 << 34},
		{api.Pen{Fore: -1, Back: 255}, 256 << 34},
		{api.Pen{Fore: -1, Back: api.Direct}, (1<<24 + 1) << 34},
		{api.Pen{Fore: -1, Back: 2*api.Direct - 1}, 1 << 59},
		{api.Pen{}, 1<<8 + 1<<34},
		{api.Pen{Fore: 1, Back: 2, Flags: 3}, 3 + 2<<8 + 3<<34},
		{api.Pen{Fore: 2*api.Direct - 1, Back: 2*api.Direct - 1, Flags: 255}, 255 + 1<<33 + 1<<59},
	} {
		if got := cell.Pack(q.p); got != q.want {
			t.Errorf("%v: %X, not %X", q.p, got, q.want)
		}
		if got, ok := cell.Unpack(q.want); got != q.p || !ok {
			t.Errorf("%X: %v, %v, not %v", q.want, got, ok, q.p)
		}
	}
}

// P2.3: all right pens have numbers of their own, below 2^60, and come back.
func TestPackedAreUnpacked(t *testing.T) {
	seen := make(map[uint64]api.Pen)
	for _, p := range allRight() {
		n := cell.Pack(p)
		if want := parts(uint64(p.Flags), uint64(p.Fore+1), uint64(p.Back+1)); n != want || n >= 1<<60 {
			t.Errorf("%v: %X, not %X", p, n, want)
		}
		if other, twice := seen[n]; twice {
			t.Error(p, other)
		}
		seen[n] = p
		if got, ok := cell.Unpack(n); got != p || !ok {
			t.Error(p, n, got, ok)
		}
	}
}

// P2.3: one number for all pens that aren't right.
func TestPackOfWrong(t *testing.T) {
	for _, p := range notRight() {
		if got := cell.Pack(p); got != none {
			t.Errorf("%v: %X", p, got)
		}
	}
}

// P2.3: numbers whose parts, or bits above the parts, are no pen's.
func TestUnpackOfWrong(t *testing.T) {
	wrong := []uint64{none, none - 1, none >> 1, none >> 4, 1 << 63}
	for _, c := range []uint64{257, 258, 1 << 23, 1<<24 - 1, 1 << 24, 1<<25 + 1, 1<<26 - 1} {
		for _, good := range []uint64{0, 1, 256, 1<<24 + 1, 1 << 25} {
			wrong = append(wrong, parts(0, c, good), parts(255, c, good), parts(0, good, c), parts(255, good, c))
		}
		wrong = append(wrong, parts(1, c, c))
	}
	for _, p := range allRight() {
		for bit := 60; bit < 64; bit++ {
			wrong = append(wrong, cell.Pack(p)|1<<bit)
		}
	}
	for _, n := range wrong {
		if p, ok := cell.Unpack(n); ok || p != (api.Pen{}) {
			t.Errorf("%X: %v, %v", n, p, ok)
		}
	}
}

// P2.3: each part's edges in all mixtures: what comes back is right, and its
// number is the same.
func TestUnpackOfMixtures(t *testing.T) {
	edges := []uint64{0, 1, 2, 256, 257, 1 << 24, 1<<24 + 1, 1<<24 + 2, 1<<25 - 1, 1 << 25, 1<<25 + 1, 1<<26 - 1}
	good := []uint64{0, 1, 2, 256, 1<<24 + 1, 1<<24 + 2, 1<<25 - 1, 1 << 25}
	for _, fore := range edges {
		for _, back := range edges {
			for flags := range uint64(256) {
				n := parts(flags, fore, back)
				p, ok := cell.Unpack(n)
				if ok != (slices.Contains(good, fore) && slices.Contains(good, back)) {
					t.Fatalf("%X: %v, %v", n, p, ok)
				}
				if ok && (!cell.Right(p) || cell.Pack(p) != n) {
					t.Fatalf("%X: %v, %X", n, p, cell.Pack(p))
				}
			}
		}
	}
}

// P2.4: a Single blank, in that pen, whatever pen that is.
func TestBlank(t *testing.T) {
	for _, p := range append(allRight(), notRight()...) {
		if got := cell.Blank(p); got != (api.Cell{Rune: 32, Kind: api.Single, Pen: p}) {
			t.Errorf("%v: %v", p, got)
		}
	}
}

// The chapter's runs.
func TestRuns(t *testing.T) {
	if cell.Width('a') != 1 || cell.Width(0x4E00) != 2 || cell.Width(0x301) != 0 {
		t.Error(cell.Width('a'), cell.Width(0x4E00), cell.Width(0x301))
	}
	if n := cell.Pack(cell.Plain()); n != 0 {
		t.Error(n)
	}
}
