package tabs_test

import (
	"math"
	"math/rand"
	"slices"
	"testing"

	"linguist/tabs"
)

// of is the stops at these columns, by the plain reading.
func of(cols ...int) uint64 { return stops{}.set(true, cols).number() }

// The chapter's runs.
func TestRuns(t *testing.T) {
	stops := tabs.New(20)
	if got := tabs.List(stops); !slices.Equal(got, []int{8, 16}) {
		t.Error(got)
	}
	if got := tabs.Next(stops, 8, 20); got != 16 {
		t.Error(got)
	}
	if got := tabs.Next(stops, 16, 20); got != 19 {
		t.Error(got)
	}
}

// The plain reading by hand, so that the tests that lean on it hold something.
func TestReading(t *testing.T) {
	for _, q := range []struct {
		number uint64
		cols   []int
	}{
		{0, nil}, {1, []int{0}}, {2, []int{1}}, {0x101, []int{0, 8}}, {0x80000000, []int{31}},
		{0x100000000, []int{32}}, {1 << 63, []int{63}}, {1<<63 + 1<<62 + 1, []int{0, 62, 63}},
	} {
		if s := stopsOf(q.number); !slices.Equal(s.list(), q.cols) || s.number() != q.number || of(q.cols...) != q.number {
			t.Errorf("%#x: %v", q.number, s.list())
		}
	}
}

// P9.1: New by hand: 0 is no stop, and none is at cols or behind it.
func TestNew(t *testing.T) {
	for _, q := range []struct {
		cols int
		want uint64
	}{
		{math.MinInt, 0}, {math.MinInt + 1, 0}, {-65, 0}, {-64, 0}, {-9, 0}, {-8, 0}, {-1, 0},
		{0, 0}, {1, 0}, {7, 0}, {8, 0},
		{9, 0x100}, {10, 0x100}, {15, 0x100}, {16, 0x100},
		{17, 0x10100}, {20, 0x10100}, {24, 0x10100}, {25, 0x1010100}, {33, 0x101010100},
		{55, 0x1010101010100}, {56, 0x1010101010100}, {57, 0x101010101010100}, {60, 0x101010101010100},
		{63, 0x101010101010100}, {64, 0x101010101010100}, {65, 0x101010101010100}, {66, 0x101010101010100},
		{72, 0x101010101010100}, {73, 0x101010101010100}, {80, 0x101010101010100}, {132, 0x101010101010100},
		{65535, 0x101010101010100}, {1 << 32, 0x101010101010100},
		{math.MaxInt - 1, 0x101010101010100}, {math.MaxInt, 0x101010101010100},
	} {
		if got := tabs.New(q.cols); got != q.want {
			t.Errorf("%d: %#x, not %#x", q.cols, got, q.want)
		}
	}
}

// P9.1: New of every number about the edges, and of far ones.
func TestNewOfAll(t *testing.T) {
	check := func(cols int) {
		if got, want := tabs.New(cols), newStops(cols).number(); got != want {
			t.Errorf("%d: %#x, not %#x", cols, got, want)
		}
	}
	for cols := -300; cols <= 600; cols++ {
		check(cols)
	}
	for _, cols := range far {
		check(cols)
	}
}

// P9.1: Has by hand, at the edges and where no stop is.
func TestHas(t *testing.T) {
	const some = 1 | 1<<7 | 1<<31 | 1<<63
	for _, q := range []struct {
		t    uint64
		col  int
		want bool
	}{
		{some, 0, true}, {some, 1, false}, {some, 7, true}, {some, 8, false}, {some, 31, true},
		{some, 32, false}, {some, 62, false}, {some, 63, true}, {some, -1, false}, {some, 64, false},
		{math.MaxUint64, 0, true}, {math.MaxUint64, 32, true}, {math.MaxUint64, 63, true},
		{math.MaxUint64, -1, false}, {math.MaxUint64, 64, false},
		{math.MaxUint64, math.MinInt, false}, {math.MaxUint64, math.MaxInt, false},
		{0, 0, false}, {0, 63, false}, {0, 64, false}, {0, -1, false},
	} {
		if got := tabs.Has(q.t, q.col); got != q.want {
			t.Errorf("%#x at %d: %v", q.t, q.col, got)
		}
	}
}

// P9.1: Has of every column, and of what is none, in numbers of all kinds.
func TestHasOfAll(t *testing.T) {
	for _, n := range numbers() {
		s := stopsOf(n)
		for _, col := range columnsAll() {
			if got := tabs.Has(n, col); got != s.has(col) {
				t.Errorf("%#x at %d: %v", n, col, got)
			}
		}
	}
}

// P9.1: Put and Drop by hand.
func TestPutAndDrop(t *testing.T) {
	const all = math.MaxUint64
	for _, q := range []struct {
		t         uint64
		cols      []int
		put, drop uint64
	}{
		{0, nil, 0, 0}, {0x10100, nil, 0x10100, 0x10100}, {0x10100, []int{}, 0x10100, 0x10100}, {all, nil, all, all},
		{0, []int{0}, 1, 0}, {0, []int{1}, 2, 0}, {0, []int{7}, 0x80, 0}, {0, []int{8}, 0x100, 0},
		{0, []int{31}, 0x80000000, 0}, {0, []int{32}, 0x100000000, 0},
		{0, []int{62}, 0x4000000000000000, 0}, {0, []int{63}, 0x8000000000000000, 0},
		{all, []int{0}, all, all - 1}, {all, []int{1}, all, all - 2}, {all, []int{7}, all, all - 0x80},
		{all, []int{8}, all, all - 0x100}, {all, []int{31}, all, all - 0x80000000}, {all, []int{32}, all, all - 0x100000000},
		{all, []int{62}, all, 0xBFFFFFFFFFFFFFFF}, {all, []int{63}, all, 0x7FFFFFFFFFFFFFFF},
		{0x10100, []int{8}, 0x10100, 0x10000},    // is there already
		{0x10100, []int{9}, 0x10300, 0x10100},    // isn't there
		{0x10100, []int{9, 9}, 0x10300, 0x10100}, // twice
		{0x10100, []int{8, 8}, 0x10100, 0x10000},
		{0x10100, []int{8, 9, 16, 8}, 0x10300, 0},              // both
		{0x10100, []int{63, 1, 16, 0}, 1<<63 + 0x10103, 0x100}, // in any order
		{0x10100, []int{0, 16, 63, 1}, 1<<63 + 0x10103, 0x100},
		{0x10100, []int{-1}, 0x10100, 0x10100}, // no stops
		{0x10100, []int{64, 72, -8, 128}, 0x10100, 0x10100},
		{0x10100, []int{-1, 16, 64}, 0x10100, 0x100}, // among others
		{0x10100, []int{64, 3, -1, 8, 80}, 0x10108, 0x10000},
		{0x10100, []int{8, math.MinInt, 16}, 0x10100, 0},
		{0x10100, []int{math.MaxInt, 5, 1 << 32}, 0x10120, 0x10100},
	} {
		if got := tabs.Put(q.t, q.cols...); got != q.put {
			t.Errorf("%#x with %v: %#x, not %#x", q.t, q.cols, got, q.put)
		}
		if got := tabs.Drop(q.t, q.cols...); got != q.drop {
			t.Errorf("%#x without %v: %#x, not %#x", q.t, q.cols, got, q.drop)
		}
	}
}

// P9.1: each column by itself, and what is none: no other stop comes or goes.
func TestPutAndDropOfOne(t *testing.T) {
	for _, n := range numbers() {
		s := stopsOf(n)
		for _, col := range columnsAll() {
			one := []int{col}
			put, drop := tabs.Put(n, col), tabs.Drop(n, col)
			if put != s.set(true, one).number() || drop != s.set(false, one).number() {
				t.Errorf("%#x, %d: %#x, %#x", n, col, put, drop)
			}
			if tabs.Has(put, col) != isColumn(col) || tabs.Has(drop, col) {
				t.Errorf("%#x, %d: not there, or there still", n, col)
			}
			if tabs.Put(n, col, col) != put || tabs.Drop(n, col, col) != drop {
				t.Errorf("%#x, %d: twice", n, col)
			}
		}
	}
}

// someColumns is up to n columns by chance, some of which are none.
func someColumns(chance *rand.Rand, n int) []int {
	all := columnsAll()
	var cols []int
	for range chance.Intn(n + 1) {
		cols = append(cols, all[chance.Intn(len(all))])
	}
	return cols
}

// P9.1: many columns at once, in any order, some twice, some none.
func TestPutAndDropOfMany(t *testing.T) {
	chance := rand.New(rand.NewSource(91))
	for _, n := range numbers() {
		for range 20 {
			cols := someColumns(chance, 150)
			s := stopsOf(n)
			if got := tabs.Put(n, cols...); got != s.set(true, cols).number() {
				t.Fatalf("%#x with %v: %#x", n, cols, got)
			}
			if got := tabs.Drop(n, cols...); got != s.set(false, cols).number() {
				t.Fatalf("%#x without %v: %#x", n, cols, got)
			}
		}
	}
}

// P9.1: all columns there are, and very many of them.
func TestPutAndDropOfAll(t *testing.T) {
	if got := tabs.Put(0, columnsAll()...); got != math.MaxUint64 {
		t.Errorf("%#x", got)
	}
	if got := tabs.Drop(math.MaxUint64, columnsAll()...); got != 0 {
		t.Errorf("%#x", got)
	}
	var many []int
	for col := -1000; col < 100000; col++ {
		many = append(many, col)
	}
	if put, drop := tabs.Put(0x10100, many...), tabs.Drop(0x10100, many...); put != math.MaxUint64 || drop != 0 {
		t.Errorf("%#x, %#x", put, drop)
	}
}

// R2: the columns that are handed in stay as they are, their spare room too.
func TestColumnsStay(t *testing.T) {
	for _, cols := range [][]int{{16, 3, -1, 64, 3, 8}, {8}, {63, 62, 61}, {math.MinInt, math.MaxInt}} {
		room := append(slices.Clone(cols), 21, 22, 23)
		handed := room[:len(cols)]
		tabs.Put(0x10100, handed...)
		tabs.Drop(0x10100, handed...)
		if !slices.Equal(room, append(slices.Clone(cols), 21, 22, 23)) {
			t.Error(cols, room)
		}
	}
}

// R5: what lies behind the columns that are handed in isn't read.
func TestSpareRoomOfColumns(t *testing.T) {
	room := []int{3, 8, 16}
	if got := tabs.Put(0, room[:1]...); got != 8 {
		t.Errorf("%#x", got)
	}
	if got := tabs.Drop(0x10108, room[:1]...); got != 0x10100 {
		t.Errorf("%#x", got)
	}
}

// P9.1: List by hand.
func TestList(t *testing.T) {
	for _, q := range []struct {
		t    uint64
		want []int
	}{
		{0, nil}, {1, []int{0}}, {2, []int{1}}, {0x101, []int{0, 8}}, {0x10100, []int{8, 16}},
		{0x80000000, []int{31}}, {0x100000000, []int{32}}, {1 << 62, []int{62}}, {1 << 63, []int{63}},
		{1<<63 + 1, []int{0, 63}}, {3<<62 + 3, []int{0, 1, 62, 63}},
		{0xFF, []int{0, 1, 2, 3, 4, 5, 6, 7}},
		{0x101010101010100, []int{8, 16, 24, 32, 40, 48, 56}},
	} {
		if got := tabs.List(q.t); !slices.Equal(got, q.want) {
			t.Errorf("%#x: %v, not %v", q.t, got, q.want)
		}
	}
	if got := tabs.List(math.MaxUint64); len(got) != 64 || got[0] != 0 || got[63] != 63 {
		t.Error(got)
	}
}

// P9.1: List of any stops is all of them, each above the one ahead, and Put
// makes the same stops of it.
func TestListOfAll(t *testing.T) {
	for _, n := range numbers() {
		got := tabs.List(n)
		if !slices.Equal(got, stopsOf(n).list()) {
			t.Errorf("%#x: %v", n, got)
		}
		for i := range got {
			if i > 0 && got[i] <= got[i-1] {
				t.Errorf("%#x: %v doesn't rise", n, got)
			}
		}
		if tabs.Put(0, got...) != n || tabs.Drop(n, got...) != 0 {
			t.Errorf("%#x: other than %v", n, got)
		}
	}
}

// R2: a list is new memory, its spare room too.
func TestListIsNew(t *testing.T) {
	for _, n := range []uint64{0, 1, 0x10100, math.MaxUint64} {
		a, b := tabs.List(n), tabs.List(n)
		a = a[:cap(a)]
		for i := range a {
			a[i] = -7
		}
		if want := stopsOf(n).list(); !slices.Equal(b, want) || !slices.Equal(tabs.List(n), want) {
			t.Errorf("%#x: %v", n, b)
		}
	}
}

// P9.2: Next by hand.
func TestNext(t *testing.T) {
	eighths := of(8, 16, 24)
	for _, q := range []struct {
		t         uint64
		col, cols int
		want      int
	}{
		{eighths, 0, 30, 8}, {eighths, 7, 30, 8}, {eighths, 8, 30, 16}, {eighths, 9, 30, 16},
		{eighths, 16, 30, 24}, {eighths, 23, 30, 24},
		{eighths, 24, 30, 29}, {eighths, 28, 30, 29}, // none is left
		{eighths, 29, 30, 29}, {eighths, 30, 30, 29}, {eighths, 31, 30, 29}, {eighths, 100, 30, 29}, // from the last column and beyond it
		{eighths, -1, 30, 8}, {eighths, -64, 30, 8}, {eighths, -56, 30, 8}, // from below 0
		{of(0, 8), -1, 30, 0}, {of(0, 8), -2, 30, 0}, {of(0, 8), 0, 30, 8}, {of(0), 0, 30, 29},
		{eighths, 16, 25, 24}, {eighths, 16, 24, 23}, {eighths, 16, 23, 22}, // at the last column, at cols, above cols
		{eighths, 23, 24, 23}, {eighths, 24, 24, 23}, {eighths, 10, 10, 9}, {eighths, 0, 8, 7}, {eighths, 0, 9, 8},
		{of(9), 3, 10, 9}, {of(10), 3, 10, 9}, {of(11), 3, 10, 9}, {of(9, 10, 11), 9, 10, 9},
		{0, 0, 10, 9}, {0, -1, 10, 9}, {0, 9, 10, 9}, {0, 0, 64, 63}, {0, 63, 64, 63}, {0, 5, 100, 99}, // no stop at all
		{eighths, 0, 0, -1}, {eighths, -1, 0, -1}, {of(0), -1, 0, -1}, {of(0), -5, 1, 0}, {of(0, 1), 0, 1, 0}, {of(1), -1, 1, 0}, {0, 0, 1, 0},
		{of(62, 63), 61, 64, 62}, {of(62, 63), 62, 64, 63}, {of(62, 63), 63, 64, 63}, {of(62, 63), 62, 63, 62},
		{of(62, 63), 62, 65, 63}, {of(62, 63), 63, 65, 64}, {of(63), 0, 80, 63}, {of(63), 63, 80, 79}, {of(63), 64, 80, 79},
		{math.MaxUint64, 63, 80, 79}, {math.MaxUint64, 79, 80, 79}, {math.MaxUint64, 80, 80, 79}, {math.MaxUint64, 64, 66, 65},
		{eighths, 0, -1, -2}, {eighths, -9, -1, -2}, {math.MaxUint64, -64, -8, -9},
	} {
		if got := tabs.Next(q.t, q.col, q.cols); got != q.want {
			t.Errorf("%#x from %d of %d: %d, not %d", q.t, q.col, q.cols, got, q.want)
		}
	}
}

// P9.2: Next at the ends of int.
func TestNextFar(t *testing.T) {
	const all = math.MaxUint64
	for _, q := range []struct {
		t         uint64
		col, cols int
		want      int
	}{
		{0x10100, math.MinInt, 20, 8}, {0x10101, math.MinInt, 20, 0}, {all, math.MinInt, 1, 0}, {all, math.MinInt, 0, -1},
		{0x10100, math.MaxInt, 20, 19}, {all, math.MaxInt, 64, 63}, {all, math.MaxInt - 1, 64, 63}, {all, 1 << 32, 64, 63},
		{0x10100, 0, math.MaxInt, 8}, {0x10100, 16, math.MaxInt, math.MaxInt - 1}, {0, 0, math.MaxInt, math.MaxInt - 1},
		{all, 63, 1 << 32, 1<<32 - 1}, {all, -1, 1 << 32, 0}, {all, 5, 1<<32 + 3, 6},
		{all, math.MaxInt, math.MaxInt, math.MaxInt - 1}, {all, math.MinInt, math.MaxInt, 0},
		{all, 0, math.MinInt + 1, math.MinInt}, {all, math.MinInt, math.MinInt + 1, math.MinInt}, {0, 0, -1 << 40, -1<<40 - 1},
	} {
		if got := tabs.Next(q.t, q.col, q.cols); got != q.want {
			t.Errorf("%#x from %d of %d: %d, not %d", q.t, q.col, q.cols, got, q.want)
		}
	}
}

// P9.2: all stops of six columns, from each column and beyond, in each width.
func TestNextOfSmall(t *testing.T) {
	for n := range uint64(1 << 6) {
		for cols := -2; cols <= 8; cols++ {
			for col := -3; col <= 10; col++ {
				if got, want := tabs.Next(n, col, cols), stopsOf(n).next(col, cols); got != want {
					t.Fatalf("%#x from %d of %d: %d, not %d", n, col, cols, got, want)
				}
			}
		}
	}
}

// P9.2: stops of all kinds, from each column and beyond, in widths about the
// edges, and from far columns in far widths.
func TestNextOfAll(t *testing.T) {
	widths := append([]int{0, 1, 2, 8, 9, 31, 32, 33, 60, 62, 63}, far...)
	for _, n := range numbers() {
		s := stopsOf(n)
		for _, cols := range widths {
			for _, col := range columnsAll() {
				if got, want := tabs.Next(n, col, cols), s.next(col, cols); got != want {
					t.Fatalf("%#x from %d of %d: %d, not %d", n, col, cols, got, want)
				}
			}
		}
	}
}

// Next again and again stands at each stop once, and then at the last column.
func TestNextWalks(t *testing.T) {
	for _, cols := range []int{1, 2, 20, 60, 63, 64, 80} {
		for _, n := range numbers() {
			var met []int
			for col := -1; col != cols-1 && len(met) <= cols; {
				col = tabs.Next(n, col, cols)
				met = append(met, col)
			}
			want := slices.DeleteFunc(stopsOf(n).list(), func(col int) bool { return col >= cols-1 })
			if !slices.Equal(met, append(want, cols-1)) {
				t.Fatalf("%#x of %d: %v, not %v", n, cols, met, want)
			}
		}
	}
}

// Calls at random, each on what the one ahead gave: nothing is kept between
// them, and nothing else hangs on them.
func TestCallsBehindEachOther(t *testing.T) {
	chance := rand.New(rand.NewSource(92))
	for range 200 {
		cols := chance.Intn(90) - 5
		n, s := tabs.New(cols), newStops(cols)
		for range 50 {
			some := someColumns(chance, 6)
			if chance.Intn(2) == 0 {
				n, s = tabs.Put(n, some...), s.set(true, some)
			} else {
				n, s = tabs.Drop(n, some...), s.set(false, some)
			}
			from := chance.Intn(100) - 10
			if n != s.number() || tabs.Next(n, from, cols) != s.next(from, cols) || !slices.Equal(tabs.List(n), s.list()) {
				t.Fatalf("%#x, not %#x, or from %d of %d: %d", n, s.number(), from, cols, tabs.Next(n, from, cols))
			}
		}
	}
}
