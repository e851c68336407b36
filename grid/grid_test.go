package grid_test

import (
	"fmt"
	"math"
	"math/rand"
	"slices"
	"testing"

	"linguist/api"
	"linguist/cell"
	"linguist/grid"
	"linguist/utf"
)

// short tells a grid without all of many cells.
func short(g api.Grid) string {
	n := min(len(g.Cells), 12)
	return fmt.Sprintf("%d by %d, %d cells: %v", g.Rows, g.Cols, len(g.Cells), g.Cells[:n])
}

// checkGrid holds two grids against each other; what was asked is told only if
// they differ, since telling takes longer than asking.
func checkGrid(t *testing.T, got, want api.Grid, asked ...any) {
	t.Helper()
	if !like(got, want) {
		t.Fatalf("%v: %s, not %s", asked, short(got), short(want))
	}
}

func checkRight(t *testing.T, want bool, gs ...api.Grid) {
	t.Helper()
	for i, g := range gs {
		if grid.Right(g) != want {
			t.Errorf("%d: %s: not %v", i, short(g), want)
		}
	}
}

// P7.1: New of all sizes about the limits, and far off.
func TestNew(t *testing.T) {
	ns := edges(62)
	for _, rows := range ns {
		for _, cols := range ns {
			got := grid.New(rows, cols, red)
			checkGrid(t, got, madeNew(rows, cols, red), rows, cols)
			if !grid.Right(got) {
				t.Fatal(rows, cols)
			}
		}
	}
}

// P7.1: the limits by their numbers.
func TestNewLimits(t *testing.T) {
	for _, q := range []struct{ rows, cols, wantRows, wantCols int }{
		{0, 0, 1, 1}, {1, 1, 1, 1}, {-1, -1, 1, 1}, {0, 5, 1, 5}, {5, 0, 5, 1},
		{39, 59, 39, 59}, {40, 60, 40, 60}, {41, 61, 40, 60}, {40, 61, 40, 60}, {41, 60, 40, 60}, {60, 40, 40, 40},
		{math.MaxInt, math.MinInt, 40, 1}, {math.MinInt, math.MaxInt, 1, 60},
	} {
		g := grid.New(q.rows, q.cols, plain)
		if g.Rows != q.wantRows || g.Cols != q.wantCols || len(g.Cells) != q.wantRows*q.wantCols {
			t.Errorf("%v: %s", q, short(g))
		}
	}
}

// P7.1: the pen of a new grid is the one that is given, one that isn't right, too.
func TestNewPens(t *testing.T) {
	for _, p := range []api.Pen{{}, plain, red, green, odd, penOf(255, 1<<24, 255), penOf(math.MinInt, math.MaxInt, math.MinInt)} {
		g := grid.New(2, 3, p)
		for _, c := range g.Cells {
			if c != cell.Blank(p) || c != (api.Cell{Rune: 32, Pen: p}) {
				t.Errorf("%v: %v", p, c)
			}
		}
		checkRight(t, cell.Right(p), g)
	}
}

// P7.1: Rows and Cols at the limits and one past them, with as many cells.
func TestRightSizes(t *testing.T) {
	for rows := -1; rows <= 42; rows++ {
		for cols := -1; cols <= 62; cols++ {
			cells := slices.Repeat([]api.Cell{blank(red)}, max(rows*cols, 0))
			checkRight(t, rows >= 1 && rows <= 40 && cols >= 1 && cols <= 60, gridOf(rows, cols, cells...))
		}
	}
}

// P7.1: other numbers of cells than Rows times Cols.
func TestRightCells(t *testing.T) {
	for _, size := range [][2]int{{1, 1}, {1, 2}, {2, 1}, {2, 3}, {3, 2}, {40, 60}} {
		rows, cols := size[0], size[1]
		n := rows * cols
		all := slices.Repeat([]api.Cell{blank(red)}, 2*n+2)
		for _, m := range []int{0, 1, n - cols, n - 1, n, n + 1, n + cols, 2 * n} {
			checkRight(t, m == n, gridOf(rows, cols, all[:m]...))
		}
		checkRight(t, false, gridOf(rows, cols), api.Grid{Rows: rows, Cols: cols}, gridOf(-rows, -cols, all[:n]...))
	}
	checkRight(t, false, api.Grid{}, gridOf(0, 0), gridOf(0, 5), gridOf(5, 0))
}

// P7.1: sizes whose product would wrap round to the number of cells.
func TestRightWrapRound(t *testing.T) {
	checkRight(t, false,
		gridOf(1<<33, 1<<31), gridOf(1<<62, 4), gridOf(4, 1<<62), gridOf(math.MinInt, 2), gridOf(math.MinInt, math.MinInt),
		gridOf(1<<32+1, 1, blank(red)), gridOf(1, 1<<32+1, blank(red)), gridOf(-1, -1, blank(red)),
		gridOf(math.MaxInt, math.MaxInt, blank(red)), gridOf(1, 1<<63-1, blank(red)), gridOf(6, 1<<63-1))
}

// P7.1: each rune, as a narrow one, as a wide one's left and as its right half.
func TestRightRunes(t *testing.T) {
	for x := rune(-300); x < 0x110300; x++ {
		w := cell.Width(x)
		if grid.Right(gridOf(1, 1, single(x, red))) != (w == 1) {
			t.Fatalf("%X: a single one", x)
		}
		if grid.Right(gridOf(1, 2, left(x, red), right(red))) != (w == 2) {
			t.Fatalf("%X: a left one", x)
		}
		other := right(red)
		other.Rune = x
		if grid.Right(gridOf(1, 2, left(0x4E00, red), other)) != (x == 0) {
			t.Fatalf("%X: a right one", x)
		}
	}
	for _, x := range []rune{math.MinInt32, math.MaxInt32, 1<<24 + 'a', math.MinInt32 + 'a'} {
		checkRight(t, false, gridOf(1, 1, single(x, red)), gridOf(1, 2, left(x, red), right(red)))
	}
}

// P7.1: numbers that are no Kind.
func TestRightKinds(t *testing.T) {
	for _, kind := range []int{math.MinInt, -2, -1, 3, 4, 256, 257, 258, 1 << 32, 1<<32 + 1, 1<<32 + 2, math.MaxInt} {
		for _, x := range []rune{0, 'a', 0x4E00} {
			c := api.Cell{Rune: x, Kind: kind, Pen: red}
			checkRight(t, false, gridOf(1, 1, c), gridOf(1, 2, c, right(red)), gridOf(1, 2, left(0x4E00, red), c))
		}
	}
}

// P7.1: pens that aren't right, of each Kind, in each place.
func TestRightPens(t *testing.T) {
	parts := []int{math.MinInt, -2, 256, 1<<24 - 1, 1 << 25, 1<<32 - 1, math.MaxInt}
	wrong := []api.Pen{odd}
	for _, n := range parts {
		wrong = append(wrong, penOf(n, -1, 0), penOf(-1, n, 0), penOf(-1, -1, n))
	}
	wrong = append(wrong, penOf(-1, -1, -1))
	for _, p := range wrong {
		checkRight(t, false, gridOf(1, 1, single('a', p)), gridOf(1, 2, left(0x4E00, p), right(p)),
			gridOf(1, 2, left(0x4E00, red), right(p)), gridOf(1, 2, left(0x4E00, p), right(red)))
		for i := range 6 {
			g := madeNew(2, 3, red)
			g.Cells[i].Pen = p
			checkRight(t, false, g)
		}
	}
	for _, p := range []api.Pen{plain, red, green, penOf(0, 255, 255), penOf(1<<24, 1<<25-1, 128)} {
		checkRight(t, true, gridOf(1, 1, single('a', p)), gridOf(1, 2, left(0x4E00, p), right(p)))
	}
}

// P7.1: halves of wide runes, with what is asked of what stands beside them.
func TestRightHalves(t *testing.T) {
	w, r, a := left(0x4E00, red), right(red), single('a', red)
	checkRight(t, true,
		gridOf(1, 2, w, r), gridOf(1, 3, w, r, a), gridOf(1, 3, a, w, r), gridOf(1, 4, w, r, left(0xAC00, green), right(green)),
		gridOf(2, 2, w, r, a, a), gridOf(2, 2, a, a, w, r), gridOf(2, 2, w, r, w, r))
	checkRight(t, false,
		gridOf(1, 1, w), gridOf(1, 1, r), // alone
		gridOf(1, 2, a, w),                                      // in the last column
		gridOf(1, 2, r, a),                                      // in the first column
		gridOf(1, 2, w, right(green)),                           // another pen
		gridOf(1, 2, w, right(plain)),                           // another pen
		gridOf(1, 2, w, a),                                      // a single one behind it
		gridOf(1, 2, w, w),                                      // a left one behind it
		gridOf(1, 3, w, w, r),                                   // a left one behind it
		gridOf(1, 2, a, r),                                      // no left one ahead of it
		gridOf(1, 3, w, r, r),                                   // a right one ahead of it
		gridOf(1, 3, w, a, r),                                   // one that is not right ahead of it
		gridOf(2, 1, w, r),                                      // in another row
		gridOf(2, 2, a, w, r, a),                                // in another row
		gridOf(2, 3, a, w, r, a, a, w),                          // in the very last column
		gridOf(2, 2, a, a, a, w),                                // in the very last column
		gridOf(2, 2, r, a, a, a),                                // in the very first column
		gridOf(1, 2, left('a', red), r),                         // a narrow one
		gridOf(1, 2, w, api.Cell{Rune: 'a', Kind: 2, Pen: red}), // the right one has a rune
		gridOf(1, 1, single(0x4E00, red)),                       // a wide one in one cell
		gridOf(1, 2, single(0x4E00, red), r),                    // not a left one
		gridOf(1, 3, w, r, left('a', red)),                      // one more
		gridOf(1, 1, api.Cell{Rune: 0, Kind: 0}),                // no rune
		gridOf(1, 1, single(0x301, red)))                        // no width
}

// rowCells are cells of which rows are made that are right or nearly.
func rowCells() []api.Cell {
	return []api.Cell{
		single('a', red), single('b', green), single('a', odd), single(0x301, red), single(0x4E00, red),
		left(0x4E00, red), left(0x4E00, green), left('a', red), left(0x4E00, odd),
		right(red), right(green), right(odd), {Rune: 'a', Kind: api.Right, Pen: red}, {Rune: 'a', Kind: 3, Pen: red},
	}
}

// P7.1: all grids of at most four such cells, of each shape.
func TestRightOfAllSmall(t *testing.T) {
	sizes := [][2]int{{1, 1}, {1, 2}, {2, 1}, {1, 3}, {3, 1}, {1, 4}, {4, 1}, {2, 2}, {2, 3}, {1, 0}}
	count := 0
	for _, l := range lists(4, rowCells()) {
		for _, size := range sizes {
			g := gridOf(size[0], size[1], l...)
			want := madeRight(g)
			if want {
				count++
			}
			if grid.Right(g) != want {
				t.Fatalf("%s: not %v", short(g), want)
			}
		}
	}
	if count < 50 {
		t.Error(count)
	}
}

// P7.1: right grids of all sizes, and those with one cell changed.
func TestRightAtRandom(t *testing.T) {
	r := rand.New(rand.NewSource(71))
	for range 2000 {
		g := rightGrid(r)
		checkRight(t, true, g)
		g.Cells[r.Intn(len(g.Cells))] = anyCell(r)
		checkRight(t, madeRight(g), g)
	}
}

// P7.1: At of all places of a grid, of those about it, and far off.
func TestAt(t *testing.T) {
	for _, g := range append(smallGrids(), grid.New(40, 60, red)) {
		for i := range g.Cells {
			g.Cells[i].Pen.Fore = i % 256 // no two alike
		}
		for _, r := range edges(g.Rows) {
			for _, c := range edges(g.Cols) {
				got, ok := grid.At(g, r, c)
				want, inside := api.Cell{}, r >= 0 && r < g.Rows && c >= 0 && c < g.Cols
				if inside {
					want = g.Cells[r*g.Cols+c]
				}
				if got != want || ok != inside {
					t.Fatalf("%s: %d, %d: %v, %v", short(g), r, c, got, ok)
				}
			}
		}
	}
}

// P7.1: At of the four corners and one past each side.
func TestAtCorners(t *testing.T) {
	a, b, c, d, e, f := single('a', red), single('b', green), single('c', red), single('d', plain), left(0x4E00, red), right(red)
	g := gridOf(2, 3, a, b, c, d, e, f)
	for _, q := range []struct {
		r, c int
		want api.Cell
		ok   bool
	}{
		{0, 0, a, true}, {0, 2, c, true}, {1, 0, d, true}, {1, 2, f, true}, {0, 1, b, true}, {1, 1, e, true},
		{-1, 0, api.Cell{}, false}, {0, -1, api.Cell{}, false}, {2, 0, api.Cell{}, false}, {0, 3, api.Cell{}, false},
		{-1, 2, api.Cell{}, false}, {1, -1, api.Cell{}, false}, {2, 2, api.Cell{}, false}, {1, 3, api.Cell{}, false},
	} {
		if got, ok := grid.At(g, q.r, q.c); got != q.want || ok != q.ok {
			t.Errorf("%d, %d: %v, %v", q.r, q.c, got, ok)
		}
	}
}

func checkSame(t *testing.T, want bool, a, b api.Grid) {
	t.Helper()
	if grid.Same(a, b) != want || grid.Same(b, a) != want {
		t.Errorf("%s, %s: not %v", short(a), short(b), want)
	}
}

// P7.1: Same of a grid and of its copy, and of copies with one field of one
// cell changed.
func TestSame(t *testing.T) {
	changes := []func(*api.Cell){
		func(c *api.Cell) { c.Rune++ },
		func(c *api.Cell) { c.Kind++ },
		func(c *api.Cell) { c.Pen.Fore++ },
		func(c *api.Cell) { c.Pen.Back++ },
		func(c *api.Cell) { c.Pen.Flags++ },
	}
	for _, g := range smallGrids() {
		checkSame(t, true, g, g)
		checkSame(t, true, g, copied(g))
		for i := range g.Cells {
			for _, change := range changes {
				other := copied(g)
				change(&other.Cells[i])
				checkSame(t, false, g, other)
			}
		}
	}
}

// P7.1: Same of grids of other sizes: with the same cells, and with fewer.
func TestSameSizes(t *testing.T) {
	cells := slices.Repeat([]api.Cell{blank(red)}, 12)
	sizes := [][2]int{{1, 1}, {1, 2}, {2, 1}, {1, 12}, {12, 1}, {2, 6}, {6, 2}, {3, 4}, {4, 3}, {3, 3}, {2, 5}}
	for i, a := range sizes {
		for j, b := range sizes {
			checkSame(t, i == j, gridOf(a[0], a[1], cells[:a[0]*a[1]]...), gridOf(b[0], b[1], cells[:b[0]*b[1]]...))
			checkSame(t, i == j, gridOf(a[0], a[1], cells...), gridOf(b[0], b[1], cells...))
		}
	}
	checkSame(t, false, gridOf(3, 4, cells...), gridOf(3, 4, cells[:11]...))
	checkSame(t, false, gridOf(3, 4, cells...), gridOf(3, 4))
	checkSame(t, true, gridOf(3, 4), api.Grid{Rows: 3, Cols: 4, Cells: []api.Cell{}})
	checkSame(t, true, api.Grid{}, api.Grid{Cells: []api.Cell{}})
}

// P7.2: rows with runes of one to four bytes, narrow and wide ones.
func TestText(t *testing.T) {
	g := stacked(
		[]api.Cell{single('a', red), single(0xE4, red), single(0x2500, green), single(0x1F000, red), single(' ', plain), single('~', odd)},
		[]api.Cell{left(0x4E00, red), right(red), single('b', green), left(0x1F300, green), right(green), single(' ', red)},
		[]api.Cell{left(0x1100, red), right(red), left(0xAC00, red), right(red), left(0x2E80, red), right(red)},
		slices.Repeat([]api.Cell{blank(red)}, 6))
	for r, want := range []string{"aä─\U0001F000 ~", "一b\U0001F300 ", "\u1100\uAC00\u2E80", "      "} {
		if got := grid.Text(g, r); got != want {
			t.Errorf("%d: %q, not %q", r, got, want)
		}
	}
	for _, r := range edges(4) {
		if got := grid.Text(g, r); (r < 0 || r > 3) && got != "" {
			t.Errorf("%d: %q", r, got)
		}
	}
}

// P7.2: each rune, alone in its row.
func TestTextOfEachRune(t *testing.T) {
	for x := range rune(0x110000) {
		g := grid.New(2, 3, red)
		switch cell.Width(x) {
		case 0:
			continue
		case 1:
			g.Cells[4] = single(x, green)
		case 2:
			g.Cells[4], g.Cells[5] = left(x, green), right(green)
		}
		want := " " + string(utf.Encode(x))
		if cell.Width(x) == 1 {
			want += " "
		}
		if got := grid.Text(g, 1); got != want {
			t.Fatalf("%X: %q", x, got)
		}
		if got := grid.Text(g, 0); got != "   " {
			t.Fatalf("%X: %q", x, got)
		}
	}
}

// P7.2: all rows of right grids.
func TestTextAtRandom(t *testing.T) {
	r := rand.New(rand.NewSource(72))
	for range 2000 {
		g := rightGrid(r)
		for n, l := range rowsOf(g) {
			want := ""
			for _, x := range glyphs(l) {
				want += string(x.rune)
			}
			if got := grid.Text(g, n); got != want {
				t.Fatalf("%s: %d: %q, not %q", short(g), n, got, want)
			}
		}
	}
}

func checkMend(t *testing.T, l []api.Cell) {
	t.Helper()
	if got := grid.Mend(l); !slices.Equal(got, mended(l)) {
		t.Fatalf("%v: %v, not %v", l, got, mended(l))
	}
}

// P7.3: what stays and what doesn't, by hand.
func TestMend(t *testing.T) {
	w, r, a := left(0x4E00, red), right(green), single('a', plain)
	lost, other := blank(red), blank(green)
	for _, q := range []struct{ given, want []api.Cell }{
		{nil, nil}, {[]api.Cell{}, nil},
		{[]api.Cell{a}, []api.Cell{a}},
		{[]api.Cell{w}, []api.Cell{lost}},
		{[]api.Cell{r}, []api.Cell{other}},
		{[]api.Cell{w, r}, []api.Cell{w, r}}, // of two pens, too
		{[]api.Cell{r, w}, []api.Cell{other, lost}},
		{[]api.Cell{w, w, r}, []api.Cell{lost, w, r}},
		{[]api.Cell{w, r, r}, []api.Cell{w, r, other}}, // as they were handed in
		{[]api.Cell{r, r, w, w}, []api.Cell{other, other, lost, lost}},
		{[]api.Cell{w, a, r}, []api.Cell{lost, a, other}},
		{[]api.Cell{a, w, r, a, r, w}, []api.Cell{a, w, r, a, other, lost}},
	} {
		if got := grid.Mend(q.given); !slices.Equal(got, q.want) {
			t.Errorf("%v: %v, not %v", q.given, got, q.want)
		}
	}
}

// P7.3: all lists of at most six cells of the three Kinds, in two pens.
func TestMendOfAllSmall(t *testing.T) {
	of := []api.Cell{single('a', red), single('b', green), left(0x4E00, red), left(0xAC00, green), right(red), right(green)}
	for _, l := range lists(6, of) {
		checkMend(t, l)
	}
}

// P7.3: the Kinds alone are asked: cells of any numbers at all.
func TestMendOfAnyCells(t *testing.T) {
	for _, l := range lists(4, append(rowCells(), api.Cell{}, api.Cell{Kind: -1}, api.Cell{Kind: math.MaxInt})) {
		checkMend(t, l)
	}
	r := rand.New(rand.NewSource(73))
	for range 20000 {
		l := make([]api.Cell, r.Intn(100))
		for i := range l {
			l[i] = anyCell(r)
		}
		checkMend(t, l)
		if m := grid.Mend(l); !slices.Equal(grid.Mend(m), m) {
			t.Fatalf("%v: mended twice", l)
		}
	}
}

// P7.4: Put by hand, in a row of a, a wide rune, b, a wide rune, c.
func TestPut(t *testing.T) {
	a, b, c := single('a', red), single('b', green), single('c', plain)
	w, x := left(0x4E00, red), left(0xAC00, green)
	v, y := right(red), right(green)
	lostW, lostX := blank(red), blank(green)
	n, m, o := single('n', plain), left(0x3042, plain), right(plain)
	row := []api.Cell{a, w, v, b, x, y, c}
	for _, q := range []struct {
		at   int
		rune rune
		want []api.Cell
	}{
		{0, 'n', []api.Cell{n, w, v, b, x, y, c}},
		{1, 'n', []api.Cell{a, n, lostW, b, x, y, c}},
		{2, 'n', []api.Cell{a, lostW, n, b, x, y, c}},
		{3, 'n', []api.Cell{a, w, v, n, x, y, c}},
		{5, 'n', []api.Cell{a, w, v, b, lostX, n, c}},
		{6, 'n', []api.Cell{a, w, v, b, x, y, n}},
		{0, 0x3042, []api.Cell{m, o, lostW, b, x, y, c}},
		{1, 0x3042, []api.Cell{a, m, o, b, x, y, c}},
		{2, 0x3042, []api.Cell{a, lostW, m, o, x, y, c}},
		{3, 0x3042, []api.Cell{a, w, v, m, o, lostX, c}},
		{5, 0x3042, []api.Cell{a, w, v, b, lostX, m, o}},
		{6, 0x3042, row}, {7, 0x3042, row}, {7, 'n', row}, {-1, 'n', row}, {-1, 0x3042, row}, {-2, 0x3042, row},
		{0, 0x301, row}, {1, 0, row}, {2, 127, row}, {3, 0xD800, row}, {4, -1, row}, {5, 0x110000, row},
	} {
		checkGrid(t, grid.Put(stacked(row, row, row), 1, q.at, q.rune, plain), stacked(row, q.want, row), q.at, q.rune)
	}
	halves := []api.Cell{w, v, x, y}
	checkGrid(t, grid.Put(stacked(halves), 0, 1, 0x3042, plain), stacked([]api.Cell{lostW, m, o, lostX}), "over two")
}

// P7.4: each place of small grids, and those about them, with runes of each width.
func TestPutAll(t *testing.T) {
	for _, g := range smallGrids() {
		for r := -1; r <= g.Rows; r++ {
			for c := -2; c <= g.Cols+1; c++ {
				for _, x := range []rune{'n', ' ', 0x4E00, 0x3042, 0x301, 0, 27} {
					for _, p := range []api.Pen{red, plain} {
						got := grid.Put(g, r, c, x, p)
						checkGrid(t, got, put(g, r, c, x, p), g, r, c, x)
						checkRight(t, true, got)
					}
				}
			}
		}
	}
}

// P7.4: places that are far off.
func TestPutFarOff(t *testing.T) {
	g := stacked([]api.Cell{single('a', red), left(0x4E00, red), right(red)}, []api.Cell{left(0x4E00, red), right(red), single('a', red)})
	for _, r := range edges(2) {
		for _, c := range edges(3) {
			for _, x := range []rune{'n', 0x4E00, 0x301} {
				checkGrid(t, grid.Put(g, r, c, x, green), put(g, r, c, x, green), r, c, x)
			}
		}
	}
}

// P7.4: each rune, in a row that is as wide, less wide, and wider.
func TestPutEachRune(t *testing.T) {
	one, two, three := grid.New(1, 1, red), grid.New(1, 2, red), grid.New(1, 3, red)
	for x := rune(-300); x < 0x110300; x++ {
		put := []api.Cell{single(x, green)}
		switch cell.Width(x) {
		case 0:
			put = nil
		case 2:
			put = []api.Cell{left(x, green), right(green)}
		}
		for _, g := range []api.Grid{one, two, three} {
			want := g
			if len(put) <= g.Cols {
				want.Cells = append(slices.Clip(put), g.Cells[len(put):]...)
			}
			checkGrid(t, grid.Put(g, 0, 0, x, green), want, x)
		}
	}
}

// P7.4: the pen is the one that is given, one that isn't right, too.
func TestPutPens(t *testing.T) {
	for _, p := range []api.Pen{{}, plain, odd, penOf(math.MinInt, math.MaxInt, math.MinInt)} {
		checkGrid(t, grid.Put(grid.New(1, 4, red), 0, 1, 0x4E00, p), gridOf(1, 4, blank(red), left(0x4E00, p), right(p), blank(red)), p)
		checkGrid(t, grid.Put(grid.New(1, 2, red), 0, 1, 'a', p), gridOf(1, 2, blank(red), single('a', p)), p)
	}
}

// P7.5: Wipe by hand, in a row of a, a wide rune, b, a wide rune, c.
func TestWipe(t *testing.T) {
	a, b, c := single('a', red), single('b', green), single('c', plain)
	w, x := left(0x4E00, red), left(0xAC00, green)
	v, y := right(red), right(green)
	lostW, lostX := blank(red), blank(green)
	n := blank(plain)
	row := []api.Cell{a, w, v, b, x, y, c}
	for _, q := range []struct {
		from, to int
		want     []api.Cell
	}{
		{0, 1, []api.Cell{n, w, v, b, x, y, c}},
		{0, 2, []api.Cell{n, n, lostW, b, x, y, c}},
		{1, 2, []api.Cell{a, n, lostW, b, x, y, c}},
		{2, 3, []api.Cell{a, lostW, n, b, x, y, c}},
		{1, 3, []api.Cell{a, n, n, b, x, y, c}},
		{2, 5, []api.Cell{a, lostW, n, n, n, lostX, c}},
		{3, 4, []api.Cell{a, w, v, n, x, y, c}},
		{5, 7, []api.Cell{a, w, v, b, lostX, n, n}},
		{6, 7, []api.Cell{a, w, v, b, x, y, n}}, {6, 8, []api.Cell{a, w, v, b, x, y, n}}, {6, math.MaxInt, []api.Cell{a, w, v, b, x, y, n}},
		{-1, 1, []api.Cell{n, w, v, b, x, y, c}}, {math.MinInt, 1, []api.Cell{n, w, v, b, x, y, c}},
		{0, 7, []api.Cell{n, n, n, n, n, n, n}}, {-5, 50, []api.Cell{n, n, n, n, n, n, n}}, {math.MinInt, math.MaxInt, []api.Cell{n, n, n, n, n, n, n}},
		{0, 0, row}, {2, 2, row}, {2, 1, row}, {3, 0, row}, {7, 7, row}, {7, 8, row}, {8, 20, row}, {-1, 0, row}, {-3, -1, row}, {5, -1, row}, {math.MaxInt, math.MinInt, row},
	} {
		checkGrid(t, grid.Wipe(stacked(row, row, row), 1, q.from, q.to, plain), stacked(row, q.want, row), q.from, q.to)
	}
	for _, r := range []int{-1, 3, math.MinInt, math.MaxInt} {
		checkGrid(t, grid.Wipe(stacked(row, row, row), r, 0, 7, plain), stacked(row, row, row), r)
	}
}

// P7.5: all from and to of small grids, and those about them.
func TestWipeAll(t *testing.T) {
	for _, g := range smallGrids() {
		for r := -1; r <= g.Rows; r++ {
			for from := -2; from <= g.Cols+2; from++ {
				for to := -2; to <= g.Cols+2; to++ {
					for _, p := range []api.Pen{red, plain} {
						got := grid.Wipe(g, r, from, to, p)
						checkGrid(t, got, wiped(g, r, from, to, p), g, r, from, to)
						checkRight(t, true, got)
					}
				}
			}
		}
	}
}

// P7.5: rows and columns that are far off, and a pen that isn't right.
func TestWipeFarOff(t *testing.T) {
	g := stacked([]api.Cell{single('a', red), left(0x4E00, red), right(red)}, []api.Cell{left(0x4E00, red), right(red), single('a', red)})
	for _, r := range edges(2) {
		for _, from := range edges(3) {
			for _, to := range edges(3) {
				checkGrid(t, grid.Wipe(g, r, from, to, odd), wiped(g, r, from, to, odd), r, from, to)
			}
		}
	}
}

// P7.6: Resize by hand.
func TestResize(t *testing.T) {
	a, b, w, v, n := single('a', red), single('b', green), left(0x4E00, red), right(red), blank(plain)
	g := stacked([]api.Cell{a, w, v, b}, []api.Cell{w, v, b, a})
	for _, q := range []struct {
		rows, cols int
		want       api.Grid
	}{
		{2, 4, g},
		{2, 5, stacked([]api.Cell{a, w, v, b, n}, []api.Cell{w, v, b, a, n})},
		{3, 4, stacked([]api.Cell{a, w, v, b}, []api.Cell{w, v, b, a}, []api.Cell{n, n, n, n})},
		{3, 5, stacked([]api.Cell{a, w, v, b, n}, []api.Cell{w, v, b, a, n}, []api.Cell{n, n, n, n, n})},
		{1, 4, stacked([]api.Cell{a, w, v, b})},
		{2, 3, stacked([]api.Cell{a, w, v}, []api.Cell{w, v, b})},
		{2, 2, stacked([]api.Cell{a, blank(red)}, []api.Cell{w, v})},
		{2, 1, stacked([]api.Cell{a}, []api.Cell{blank(red)})},
		{3, 2, stacked([]api.Cell{a, blank(red)}, []api.Cell{w, v}, []api.Cell{n, n})},
		{1, 6, stacked([]api.Cell{a, w, v, b, n, n})},
		{0, 0, stacked([]api.Cell{a})}, {-9, 2, stacked([]api.Cell{a, blank(red)})}, {math.MinInt, math.MinInt, stacked([]api.Cell{a})},
	} {
		checkGrid(t, grid.Resize(g, q.rows, q.cols), q.want, q.rows, q.cols)
	}
	great := grid.Resize(g, 41, 61)
	if great.Rows != 40 || great.Cols != 60 || len(great.Cells) != 2400 || great.Cells[63] != a || great.Cells[64] != n {
		t.Error(short(great))
	}
}

// P7.6: small grids to all sizes about them, and past the limits.
func TestResizeAll(t *testing.T) {
	for _, g := range smallGrids() {
		for rows := 0; rows <= g.Rows+2; rows++ {
			for cols := 0; cols <= g.Cols+2; cols++ {
				got := grid.Resize(g, rows, cols)
				checkGrid(t, got, resized(g, rows, cols), g, rows, cols)
				checkRight(t, true, got)
			}
		}
	}
	few := stacked([]api.Cell{left(0x4E00, red), right(red)}, []api.Cell{single('a', red), single('b', green)})
	for _, rows := range edges(42) {
		for _, cols := range edges(62) {
			checkGrid(t, grid.Resize(few, rows, cols), resized(few, rows, cols), rows, cols)
		}
	}
}

// P7.1 to P7.6: many calls, each on the answer of the one ahead; all grids that
// are made are right.
func TestAtRandom(t *testing.T) {
	r := rand.New(rand.NewSource(7))
	for range 300 {
		g := rightGrid(r)
		for range 60 {
			row, at, to, p := r.Intn(g.Rows+2)-1, r.Intn(g.Cols+2)-1, r.Intn(g.Cols+2), pick(r, plain, red, green)
			var got, want api.Grid
			switch r.Intn(8) {
			case 0:
				rows, cols := g.Rows+r.Intn(5)-2, g.Cols+r.Intn(5)-2
				got, want = grid.Resize(g, rows, cols), resized(g, rows, cols)
			case 1, 2:
				got, want = grid.Wipe(g, row, at, to, p), wiped(g, row, at, to, p)
			default:
				x := anyRune(r)
				got, want = grid.Put(g, row, at, x, p), put(g, row, at, x, p)
			}
			checkGrid(t, got, want, g)
			checkRight(t, true, got)
			g = got
		}
	}
}

// roomy is a copy of l with room behind it that isn't zero.
func roomy(l []api.Cell) []api.Cell {
	return append(slices.Clone(l), left(71, odd), right(red), single(73, green))[:len(l)]
}

func full(l []api.Cell) []api.Cell { return l[:cap(l)] }

func fill(l []api.Cell) {
	for i := range l {
		l[i] = api.Cell{Rune: 99, Kind: 98, Pen: penOf(97, 96, 95)}
	}
}

// calls are those that answer cells, each of a grid, with something to do and
// with nothing to do.
func calls() []func(api.Grid) []api.Cell {
	var fs []func(api.Grid) []api.Cell
	add := func(f func(api.Grid) api.Grid) {
		fs = append(fs, func(g api.Grid) []api.Cell { return f(g).Cells })
	}
	for _, r := range []int{-1, 0, 1, 9} {
		for _, c := range []int{-1, 0, 1, 2, 70} {
			for _, x := range []rune{'n', 0x3042, 0x301} {
				add(func(g api.Grid) api.Grid { return grid.Put(g, r, c, x, plain) })
			}
			for _, to := range []int{-1, 0, 2, 70} {
				add(func(g api.Grid) api.Grid { return grid.Wipe(g, r, c, to, plain) })
			}
		}
	}
	for _, n := range []int{-1, 0, 1, 2, 70} {
		add(func(g api.Grid) api.Grid { return grid.New(n, n, red) })
		add(func(g api.Grid) api.Grid { return grid.Resize(g, n, g.Cols) })
		add(func(g api.Grid) api.Grid { return grid.Resize(g, g.Rows, n) })
	}
	add(func(g api.Grid) api.Grid { return grid.Resize(g, g.Rows, g.Cols) })
	return append(fs, func(g api.Grid) []api.Cell { return grid.Mend(g.Cells) })
}

// someGrids are right ones, and some that aren't.
func someGrids() []api.Grid {
	gs := smallGrids()
	r := rand.New(rand.NewSource(70))
	for range 200 {
		gs = append(gs, anyGrid(r))
	}
	return append(gs, rightGrid(r), api.Grid{}, gridOf(2, 2), gridOf(1, 1, blank(red), blank(red)), gridOf(math.MaxInt, math.MaxInt))
}

// R2: what is handed in stays, its spare room too.
func TestHandedInStays(t *testing.T) {
	for _, g := range someGrids() {
		g.Cells = roomy(g.Cells)
		was := slices.Clone(full(g.Cells))
		check := func(what string) {
			if !slices.Equal(full(g.Cells), was) {
				t.Fatalf("%s: %s", what, short(g))
			}
		}
		for i, f := range calls() {
			f(g)
			check(fmt.Sprint("call ", i))
		}
		grid.Right(g)
		grid.At(g, 0, 0)
		grid.Text(g, 0)
		grid.Same(g, g)
		check("asked")
	}
}

// R2: an answer isn't what was handed in, and is nobody else's: either is
// written full, and what came ahead and what comes later stays; so does an answer
// when what was handed in is written full.
func TestAnswersAreNew(t *testing.T) {
	for _, g := range someGrids() {
		for i, f := range calls() {
			g.Cells = roomy(g.Cells)
			was := slices.Clone(full(g.Cells))
			ahead := f(g)
			want := slices.Clone(ahead)
			fill(full(f(g)))
			if !slices.Equal(full(g.Cells), was) || !slices.Equal(ahead, want) || !slices.Equal(f(g), want) {
				t.Fatalf("call %d: %s", i, short(g))
			}
			fill(full(g.Cells))
			if !slices.Equal(ahead, want) {
				t.Fatalf("call %d: kept: %s", i, short(g))
			}
			g.Cells = was[:len(g.Cells)]
		}
	}
}

// R1: grids of any numbers at all, and places of any numbers.
func TestAnyNumbers(t *testing.T) {
	r := rand.New(rand.NewSource(1))
	for range 30000 {
		a, b := anyGrid(r), anyGrid(r)
		row, c, to := pick(r, edges(5)...), pick(r, edges(9)...), pick(r, edges(9)...)
		p := anyPen(r)
		want := madeRight(a)
		checkRight(t, want, a)
		grid.Text(a, row)
		grid.At(a, row, c)
		if grid.Same(a, b) != like(a, b) || !grid.Same(a, copied(a)) {
			t.Fatalf("%s, %s", short(a), short(b))
		}
		grid.Put(a, row, c, anyRune(r), p)
		grid.Wipe(a, row, c, to, p)
		grid.Resize(a, row, c)
		checkMend(t, a.Cells)
	}
}

// The chapter's runs.
func TestRuns(t *testing.T) {
	g := grid.Put(grid.New(1, 4, plain), 0, 0, 0x4E00, red)
	got := grid.Put(g, 0, 1, 'x', green)
	checkGrid(t, got, gridOf(1, 4, blank(red), single('x', green), blank(plain), blank(plain)), "the run")
	if s := grid.Text(got, 0); s != " x  " {
		t.Errorf("%q", s)
	}
}
