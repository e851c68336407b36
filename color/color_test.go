package color_test

import (
	"math"
	"testing"

	"linguist/api"
	"linguist/color"
)

const (
	black = api.Direct
	white = 2*api.Direct - 1
)

// none are the numbers that are no colour with parts: those beside the edges,
// and the ends of int.
var none = []int{
	math.MinInt, math.MinInt + 1, math.MinInt32, -2 * api.Direct, -api.Direct, -256, -255, -16, -3, -2, api.Default,
	256, 257, 271, 511, 512, 1 << 16, api.Direct - 256, api.Direct - 2, api.Direct - 1,
	2 * api.Direct, 2*api.Direct + 1, 2*api.Direct + 255, 3 * api.Direct, 4 * api.Direct, 1 << 32,
	math.MaxInt32, math.MaxInt - 1, math.MaxInt,
}

// basic are P3.1's parts of 0 to 15, as it writes them.
var basic = [][3]int{
	{0, 0, 0}, {205, 0, 0}, {0, 205, 0}, {205, 205, 0}, {0, 0, 238}, {205, 0, 205}, {0, 205, 205}, {229, 229, 229},
	{127, 127, 127}, {255, 0, 0}, {0, 255, 0}, {255, 255, 0}, {92, 92, 255}, {255, 0, 255}, {0, 255, 255}, {255, 255, 255},
}

// palette are the parts of 0 to 255, laid one behind the other.
func palette() (all [][3]int) {
	all = append(all, basic...)
	steps := []int{0, 95, 135, 175, 215, 255}
	for _, r := range steps {
		for _, g := range steps {
			for _, b := range steps {
				all = append(all, [3]int{r, g, b})
			}
		}
	}
	for grey := 8; len(all) < 256; grey += 10 {
		all = append(all, [3]int{grey, grey, grey})
	}
	return all
}

// direct is a direct colour's number, as package api tells it.
func direct(p [3]int) int { return 16777216 + p[0]*65536 + p[1]*256 + p[2] }

// apart is P3.2's distance.
func apart(p, q [3]int) (sum int) {
	for i := range p {
		sum += (p[i] - q[i]) * (p[i] - q[i])
	}
	return sum
}

// nearest goes down from the greatest of n colours: of those as near the last
// one met is the least.
func nearest(p [3]int, n int) (best int) {
	best = n - 1
	all := palette()
	for i := n - 1; i >= 0; i-- {
		if apart(p, all[i]) <= apart(p, all[best]) {
			best = i
		}
	}
	return best
}

// lattice are direct colours' parts all over the cube, its corners too.
func lattice() (all [][3]int) {
	levels := []int{0, 1, 13, 47, 48, 92, 102, 103, 128, 155, 205, 230, 254, 255}
	for _, r := range levels {
		for _, g := range levels {
			for _, b := range levels {
				all = append(all, [3]int{r, g, b})
			}
		}
	}
	return all
}

func wantParts(t *testing.T, c int, want [3]int) {
	t.Helper()
	if r, g, b, ok := color.RGB(c); [3]int{r, g, b} != want || !ok {
		t.Errorf("%d: %d %d %d, %v, not %v", c, r, g, b, ok, want)
	}
}

// P3.1: the basic colours, each as the chapter writes it.
func TestRGBOfBasic(t *testing.T) {
	if len(basic) != 16 {
		t.Fatal(len(basic))
	}
	for c, want := range basic {
		wantParts(t, c, want)
	}
}

// P3.1: the cube's and the greys' ends, and where a part of the cube steps on.
func TestRGBOfCubeAndGreys(t *testing.T) {
	for _, q := range []struct {
		c    int
		want [3]int
	}{
		{16, [3]int{0, 0, 0}}, {17, [3]int{0, 0, 95}}, {18, [3]int{0, 0, 135}}, {19, [3]int{0, 0, 175}},
		{20, [3]int{0, 0, 215}}, {21, [3]int{0, 0, 255}}, {22, [3]int{0, 95, 0}}, {51, [3]int{0, 255, 255}},
		{52, [3]int{95, 0, 0}}, {88, [3]int{135, 0, 0}}, {124, [3]int{175, 0, 0}}, {160, [3]int{215, 0, 0}},
		{139, [3]int{175, 135, 175}}, {196, [3]int{255, 0, 0}}, {200, [3]int{255, 0, 215}},
		{230, [3]int{255, 255, 215}}, {231, [3]int{255, 255, 255}},
		{232, [3]int{8, 8, 8}}, {233, [3]int{18, 18, 18}}, {244, [3]int{128, 128, 128}},
		{254, [3]int{228, 228, 228}}, {255, [3]int{238, 238, 238}},
	} {
		wantParts(t, q.c, q.want)
	}
}

// P3.1: all indexed colours.
func TestRGBOfPalette(t *testing.T) {
	all := palette()
	if len(all) != 256 {
		t.Fatal(len(all))
	}
	for c, want := range all {
		wantParts(t, c, want)
	}
}

// P3.1: direct colours, each part alone, and the first and the last one.
func TestRGBOfDirect(t *testing.T) {
	for _, q := range []struct {
		c    int
		want [3]int
	}{
		{black, [3]int{0, 0, 0}}, {black + 1, [3]int{0, 0, 1}}, {black + 255, [3]int{0, 0, 255}},
		{black + 256, [3]int{0, 1, 0}}, {black + 65535, [3]int{0, 255, 255}}, {black + 65536, [3]int{1, 0, 0}},
		{black + 0xFA0A0B, [3]int{250, 10, 11}}, {black + 1<<23, [3]int{128, 0, 0}},
		{white - 65536, [3]int{254, 255, 255}}, {white - 1, [3]int{255, 255, 254}}, {white, [3]int{255, 255, 255}},
	} {
		wantParts(t, q.c, q.want)
	}
}

// P3.1: what has no parts answers zeros beside false.
func TestRGBOfNone(t *testing.T) {
	for _, c := range none {
		if r, g, b, ok := color.RGB(c); r != 0 || g != 0 || b != 0 || ok {
			t.Errorf("%d: %d %d %d, %v", c, r, g, b, ok)
		}
	}
}

// P3.1: every number from below Default to above 256, and about the two ends of
// the direct colours: has it parts?
func TestRGBAboutEdges(t *testing.T) {
	for _, middle := range []int{0, 256, api.Direct, 2 * api.Direct} {
		for c := middle - 300; c <= middle+300; c++ {
			_, _, _, ok := color.RGB(c)
			if ok != (c >= 0 && c <= 255 || c >= 16777216 && c <= 33554431) {
				t.Error(c, ok)
			}
		}
	}
}

// P3.1: each part within its bounds, at them, and cut on either side of them.
func TestOf(t *testing.T) {
	cuts := []struct{ part, want int }{
		{math.MinInt, 0}, {math.MinInt32, 0}, {-256, 0}, {-255, 0}, {-1, 0}, {0, 0}, {1, 1}, {10, 10}, {127, 127}, {128, 128},
		{254, 254}, {255, 255}, {256, 255}, {257, 255}, {511, 255}, {512, 255}, {1 << 16, 255}, {1 << 24, 255},
		{math.MaxInt32, 255}, {1 << 32, 255}, {math.MaxInt, 255},
	}
	for _, r := range cuts {
		for _, g := range cuts {
			for _, b := range cuts {
				want := direct([3]int{r.want, g.want, b.want})
				if got := color.Of(r.part, g.part, b.part); got != want {
					t.Fatalf("%d %d %d: %d, not %d", r.part, g.part, b.part, got, want)
				}
			}
		}
	}
	if color.Of(0, 0, 0) != black || color.Of(255, 255, 255) != white || color.Of(1, 2, 3) != api.Direct+65536+512+3 {
		t.Error(color.Of(0, 0, 0), color.Of(255, 255, 255), color.Of(1, 2, 3))
	}
}

// P3.1: every direct colour is made of its parts.
func TestOfRGB(t *testing.T) {
	for c := black; c <= white; c++ {
		r, g, b, ok := color.RGB(c)
		if got := color.Of(r, g, b); got != c || !ok {
			t.Fatalf("%d: %d %d %d, %v: %d", c, r, g, b, ok, got)
		}
	}
}

// P3.2: each part's difference alone, two of them, and all three.
func TestFar(t *testing.T) {
	for _, q := range []struct{ a, b, want int }{
		{0, 1, 205 * 205}, {0, 2, 205 * 205}, {0, 4, 238 * 238}, {0, 3, 2 * 205 * 205},
		{0, 15, 3 * 255 * 255}, {1, 9, 50 * 50}, {9, 10, 2 * 255 * 255}, {12, 4, 92*92 + 92*92 + 17*17},
		{16, 0, 0}, {231, 15, 0}, {9, 196, 0}, {9, color.Of(255, 0, 0), 0}, {232, 233, 300},
		{color.Of(1, 2, 3), color.Of(11, 22, 33), 100 + 400 + 900},
		{color.Of(200, 1, 9), color.Of(199, 3, 6), 1 + 4 + 9},
		{black, white, 195075},
	} {
		if got, back := color.Far(q.a, q.b), color.Far(q.b, q.a); got != q.want || back != q.want {
			t.Errorf("%d, %d: %d, %d, not %d", q.a, q.b, got, back, q.want)
		}
	}
}

// P3.2: each two indexed colours, and these against direct ones, either way
// round; each and itself.
func TestFarOfAll(t *testing.T) {
	for a, p := range palette() {
		if got := color.Far(a, a); got != 0 {
			t.Errorf("%d, itself: %d", a, got)
		}
		for b, q := range palette() {
			if got := color.Far(a, b); got != apart(p, q) {
				t.Errorf("%d, %d: %d, not %d", a, b, got, apart(p, q))
			}
		}
		for _, q := range lattice() {
			if got, back := color.Far(a, direct(q)), color.Far(direct(q), a); got != apart(p, q) || back != got {
				t.Fatalf("%d, %v: %d, %d, not %d", a, q, got, back, apart(p, q))
			}
		}
	}
	for _, q := range lattice() {
		if got := color.Far(direct(q), direct(q)); got != 0 {
			t.Errorf("%v, itself: %d", q, got)
		}
	}
}

// P3.2: one without parts on either side, and on both.
func TestFarOfNone(t *testing.T) {
	for _, a := range none {
		for _, b := range []int{0, 1, 9, 15, 200, 255, black, white} {
			if got, back := color.Far(a, b), color.Far(b, a); got != 0 || back != 0 {
				t.Errorf("%d, %d: %d, %d", a, b, got, back)
			}
		}
		for _, b := range none {
			if got := color.Far(a, b); got != 0 {
				t.Errorf("%d, %d: %d", a, b, got)
			}
		}
	}
}

// P3.2: among as many as there are, one fewer, and the usual numbers.
func TestNearest(t *testing.T) {
	for _, q := range []struct{ c, n, want int }{
		{white, 1, 0}, {9, 1, 0}, {0, 1, 0},
		{9, 2, 1}, {8, 2, 1}, {12, 2, 0}, {white, 2, 1},
		{9, 8, 1}, {15, 8, 7}, {8, 8, 3}, {200, 8, 5}, {244, 8, 3}, {232, 8, 0}, {21, 8, 4}, {255, 8, 7},
		{9, 16, 9}, {200, 16, 13}, {244, 16, 8}, {231, 16, 15}, {124, 16, 1}, {255, 16, 7},
		{color.Of(100, 100, 250), 16, 12}, {color.Of(250, 250, 10), 16, 11},
		{254, 255, 254}, {255, 255, 7}, {color.Of(240, 240, 240), 255, 7}, {254, 254, 7},
		{254, 256, 254}, {255, 256, 255}, {color.Of(240, 240, 240), 256, 255},
		{200, 256, 200}, {139, 256, 139}, {color.Of(250, 5, 210), 256, 200},
	} {
		if got := color.Nearest(q.c, q.n); got != q.want {
			t.Errorf("%d among %d: %d, not %d", q.c, q.n, got, q.want)
		}
	}
}

// P3.2: of several as near, alike or not, the least.
func TestNearestOfAsNear(t *testing.T) {
	for _, q := range []struct{ c, n, want int }{
		{16, 256, 0}, {16, 17, 0}, {231, 256, 15}, {196, 256, 9}, {46, 256, 10}, {226, 256, 11}, {201, 256, 13}, {51, 256, 14},
		{color.Of(205, 205, 0), 3, 1},
		{color.Of(13, 13, 13), 256, 232}, {color.Of(223, 223, 223), 256, 253},
		{color.Of(115, 0, 0), 256, 52}, {color.Of(0, 115, 0), 256, 22}, {color.Of(0, 0, 195), 256, 19},
		{color.Of(230, 0, 230), 16, 5}, {color.Of(230, 0, 0), 16, 1}, {color.Of(0, 230, 0), 16, 2}, {color.Of(178, 178, 178), 16, 7},
	} {
		if got := color.Nearest(q.c, q.n); got != q.want {
			t.Errorf("%d among %d: %d, not %d", q.c, q.n, got, q.want)
		}
	}
}

// P3.2: every indexed colour among every number of them.
func TestNearestOfPalette(t *testing.T) {
	for c, p := range palette() {
		for n := 1; n <= 256; n++ {
			if got, want := color.Nearest(c, n), nearest(p, n); got != want {
				t.Fatalf("%d among %d: %d, not %d", c, n, got, want)
			}
		}
	}
}

// P3.2: direct colours all over the cube.
func TestNearestOfDirect(t *testing.T) {
	for _, p := range lattice() {
		for _, n := range []int{1, 2, 3, 7, 8, 15, 16, 17, 88, 255, 256} {
			if got, want := color.Nearest(direct(p), n), nearest(p, n); got != want {
				t.Fatalf("%v among %d: %d, not %d", p, n, got, want)
			}
		}
	}
}

// P3.2: Default of what has no parts, and among too few or too many.
func TestNearestOfNone(t *testing.T) {
	for _, c := range none {
		for _, n := range []int{math.MinInt, -1, 0, 1, 2, 8, 16, 255, 256, 257, math.MaxInt} {
			if got := color.Nearest(c, n); got != api.Default {
				t.Errorf("%d among %d: %d", c, n, got)
			}
		}
	}
	for _, c := range []int{0, 1, 9, 16, 255, black, black + 77, white} {
		for _, n := range []int{math.MinInt, -256, -8, -2, -1, 0, 257, 258, 512, api.Direct, math.MaxInt} {
			if got := color.Nearest(c, n); got != api.Default {
				t.Errorf("%d among %d: %d", c, n, got)
			}
		}
	}
}

// P3.3: nothing is left of any colour, where there are no colours.
func TestLowerAmongNone(t *testing.T) {
	for _, n := range []int{math.MinInt, -256, -8, -2, -1, 0} {
		for _, c := range append([]int{-9, 0, 1, 7, 9, 200, 255, black, white}, none...) {
			if got := color.Lower(c, n); got != api.Default {
				t.Errorf("%d among %d: %d", c, n, got)
			}
		}
	}
}

// P3.3: what is below n stays as it is: Default, what is below that, colours,
// those too that look like a lesser one, and numbers that are no colours.
func TestLowerStays(t *testing.T) {
	for _, n := range []int{1, 2, 8, 16, 88, 255, 256, 257, api.Direct, 2 * api.Direct, math.MaxInt} {
		for _, c := range append([]int{-9, 0, 1, 2, 7, 8, 15, 16, 231, 255, black, white, n - 2, n - 1}, none...) {
			if got := color.Lower(c, n); c < n && got != c {
				t.Errorf("%d among %d: %d", c, n, got)
			}
		}
	}
}

// P3.3: n and above: the nearest, or Default where there is none.
func TestLowerIsNearest(t *testing.T) {
	for _, q := range []struct{ c, n, want int }{
		{0, 1, 0}, {1, 1, 0}, {white, 1, 0},
		{7, 8, 7}, {8, 8, 3}, {9, 8, 1}, {15, 8, 7}, {200, 8, 5}, {255, 8, 7},
		{15, 16, 15}, {16, 16, 0}, {196, 16, 9}, {231, 16, 15}, {231, 231, 15}, {231, 232, 231},
		{16, 17, 16}, {254, 255, 254}, {255, 255, 7}, {255, 256, 255},
		{black, 8, 0}, {white, 8, 7}, {white, 16, 15}, {color.Of(250, 10, 10), 8, 1}, {color.Of(255, 0, 215), 256, 200},
		{256, 256, api.Default}, {256, 8, api.Default}, {300, 1, api.Default}, {api.Direct - 1, 256, api.Default},
		{2 * api.Direct, 256, api.Default}, {math.MaxInt, 8, api.Default},
		{257, 257, api.Default}, {white, 257, api.Default}, {white, white, api.Default}, {black, 1000, api.Default},
	} {
		if got := color.Lower(q.c, q.n); got != q.want {
			t.Errorf("%d among %d: %d, not %d", q.c, q.n, got, q.want)
		}
	}
}

// P3.3: all indexed colours, and direct ones, among all numbers about the edges.
func TestLowerOfAll(t *testing.T) {
	for _, n := range []int{-1, 0, 1, 2, 3, 7, 8, 9, 15, 16, 17, 88, 231, 232, 255, 256, 257} {
		for c, p := range palette() {
			want := c
			if n < 1 {
				want = api.Default
			} else if c >= n {
				want = nearest(p, n)
			}
			if got := color.Lower(c, n); got != want {
				t.Fatalf("%d among %d: %d, not %d", c, n, got, want)
			}
		}
		for _, p := range lattice() {
			want := api.Default
			if n >= 1 && n <= 256 {
				want = nearest(p, n)
			}
			if got := color.Lower(direct(p), n); got != want {
				t.Fatalf("%v among %d: %d, not %d", p, n, got, want)
			}
		}
	}
}

// The chapter's runs.
func TestRuns(t *testing.T) {
	red := color.Of(250, 10, 10)
	if color.Nearest(red, 16) != 9 || color.Nearest(red, 8) != 1 {
		t.Error(color.Nearest(red, 16), color.Nearest(red, 8))
	}
	if color.Lower(3, 8) != 3 || color.Lower(200, 0) != api.Default {
		t.Error(color.Lower(3, 8), color.Lower(200, 0))
	}
}
