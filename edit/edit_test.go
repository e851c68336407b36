package edit_test

import (
	"fmt"
	"math"
	"math/rand"
	"slices"
	"testing"

	"linguist/api"
	"linguist/edit"
	"linguist/grid"
)

// short tells a grid without all of many cells.
func short(g api.Grid) string {
	n := min(len(g.Cells), 12)
	return fmt.Sprintf("%d by %d, %d cells: %v", g.Rows, g.Cols, len(g.Cells), g.Cells[:n])
}

// checkGrid holds two grids against each other; what was asked is told only if
// they differ, since telling takes longer than asking.
func checkGrid(t *testing.T, got, want api.Grid, asked ...any) {
	t.Helper()
	if !like(got, want) {
		t.Fatalf("%v: %s, not %s", asked, short(got), short(want))
	}
}

// checkRight holds an answer against what is wanted, and asks whether it is right.
func checkRight(t *testing.T, got, want api.Grid, asked ...any) {
	t.Helper()
	checkGrid(t, got, want, asked...)
	if !isRight(got) {
		t.Fatalf("%v: %s isn't right", asked, short(got))
	}
}

// cellsBy is a row for the tests by hand: a, b and c in pens red, green and
// plain, < and > the halves of a wide rune in red, [ and ] of one in green; r and
// g are blanks in red and green, as such a rune leaves them, a point one in blue.
func cellsBy(row string) []api.Cell {
	signs := map[rune]api.Cell{
		'a': single('a', red), 'b': single('b', green), 'c': single('c', plain),
		'<': left(0x4E00, red), '>': right(red), '[': left(0xAC00, green), ']': right(green),
		'r': blank(red), 'g': blank(green), '.': blank(blue),
	}
	var l []api.Cell
	for _, sign := range row {
		l = append(l, signs[sign])
	}
	return l
}

func gridBy(rows ...string) api.Grid {
	var all [][]api.Cell
	for _, row := range rows {
		all = append(all, cellsBy(row))
	}
	return stacked(all...)
}

// inRow is a call that changes one row.
type inRow func(g api.Grid, r, c, n int, p api.Pen) api.Grid

const handRow = "a<>b[]c"

// byHand is what a call makes of handRow in pen blue, at column c.
type byHand struct {
	c, n int
	want string
}

// checkHand asks the call of the middle one of three rows, and of what is no row.
func checkHand(t *testing.T, call inRow, of []byHand) {
	t.Helper()
	g := gridBy(handRow, handRow, handRow)
	for _, q := range of {
		checkRight(t, call(g, 1, q.c, q.n, blue), gridBy(handRow, q.want, handRow), q.c, q.n)
		for _, r := range []int{-1, 3, math.MinInt, math.MaxInt} {
			checkRight(t, call(g, r, q.c, q.n, blue), g, r, q.c, q.n)
		}
	}
}

// P8.1: Insert by hand.
func TestInsert(t *testing.T) {
	checkHand(t, edit.Insert, []byHand{
		{0, 1, ".a<>b[]"},
		{0, 2, "..a<>bg"}, // half over the end
		{0, 4, "....a<>"},
		{0, 5, ".....ar"}, // half over the end
		{1, 1, "a.<>b[]"},
		{2, 1, "ar.rb[]"}, // a right one
		{2, 2, "ar..rbg"},
		{4, 2, "a<>b..g"},
		{5, 1, "a<>bg.g"}, // a right one
		{5, 2, "a<>bg.."},
		{6, 1, "a<>b[]."}, {6, 2, "a<>b[]."},
		{0, 6, "......a"}, {0, 7, "......."}, {0, 8, "......."}, {0, 65535, "......."}, {2, 65535, "ar....."},
		{0, 0, handRow}, {1, 0, handRow}, {3, 0, handRow}, {6, 0, handRow},
		{2, 0, "arrb[]c"}, {5, 0, "a<>bggc"}, // parted all the same
		{-1, 1, handRow}, {7, 1, handRow}, {math.MinInt, 1, handRow}, {math.MaxInt, 1, handRow},
	})
}

// P8.2: Delete by hand.
func TestDelete(t *testing.T) {
	checkHand(t, edit.Delete, []byHand{
		{0, 1, "<>b[]c."},
		{0, 2, "rb[]c.."}, // half of what is gone
		{0, 3, "b[]c..."},
		{0, 5, "gc....."}, // half of what is gone
		{1, 1, "arb[]c."},
		{1, 2, "ab[]c.."},
		{2, 1, "arb[]c."}, // a right one
		{2, 2, "ar[]c.."},
		{2, 3, "argc..."}, // half of what is gone, at both ends
		{3, 2, "a<>gc.."},
		{5, 1, "a<>bgc."},
		{6, 1, "a<>b[]."}, {6, 2, "a<>b[]."},
		{0, 6, "c......"}, {0, 7, "......."}, {0, 8, "......."}, {0, 65535, "......."}, {5, 65535, "a<>bg.."},
		{0, 0, handRow}, {1, 0, handRow}, {3, 0, handRow}, {6, 0, handRow},
		{2, 0, "arrb[]c"}, {5, 0, "a<>bggc"}, // parted all the same
		{-1, 1, handRow}, {7, 1, handRow}, {math.MinInt, 1, handRow}, {math.MaxInt, 1, handRow},
	})
}

// P8.2: a right half that comes to stand behind another rune's left half doesn't
// become that one's, in another pen and in its own.
func TestDeleteBetweenWide(t *testing.T) {
	for _, q := range []struct {
		given string
		n     int
		want  string
	}{{"<>[]", 2, "rg.."}, {"<>a[]", 3, "rg..."}, {"<><>", 2, "rr.."}, {"<>[]<>", 4, "rr...."}} {
		checkRight(t, edit.Delete(gridBy(q.given), 0, 1, q.n, blue), gridBy(q.want), q.given)
	}
}

// rowCalls are Insert and Delete, with the model's.
func rowCalls() [][2]inRow {
	return [][2]inRow{{edit.Insert, inserted}, {edit.Delete, deleted}}
}

// P8.1, P8.2: each place of small grids, those about it, and all numbers of cells.
func TestInsertAndDeleteAll(t *testing.T) {
	for i, call := range rowCalls() {
		for _, g := range smallGrids() {
			for r := -1; r <= g.Rows; r++ {
				for c := -2; c <= g.Cols+1; c++ {
					for _, n := range counts(g.Cols - c) {
						checkRight(t, call[0](g, r, c, n, plain), call[1](g, r, c, n, plain), i, g, r, c, n)
					}
				}
			}
		}
	}
}

// P8.1, P8.2: each number of cells that may be asked for.
func TestInsertAndDeleteEachNumber(t *testing.T) {
	g := gridBy("a<>[]", "<>bca")
	for i, call := range rowCalls() {
		for n := range api.MaxParam + 1 {
			checkGrid(t, call[0](g, 0, 2, n, blue), call[1](g, 0, 2, n, blue), i, n)
		}
	}
}

// P8.1, P8.2: places that are far off.
func TestInsertAndDeleteFarOff(t *testing.T) {
	g := gridBy("a<>", "[]b")
	for i, call := range rowCalls() {
		for _, r := range edges(2) {
			for _, c := range edges(3) {
				checkGrid(t, call[0](g, r, c, 1, blue), call[1](g, r, c, 1, blue), i, r, c)
			}
		}
	}
}

// P8.1, P8.2: the blanks' pen is the one that is given, one that isn't right, too;
// what is left of a wide rune keeps its own.
func TestInsertAndDeletePens(t *testing.T) {
	for _, p := range []api.Pen{{}, plain, red, green, odd, penOf(255, 1<<24, 255), penOf(math.MinInt, math.MaxInt, math.MinInt)} {
		g, in, out := gridBy("<>[]"), gridBy("r.rg"), gridBy("r[].")
		in.Cells[1], out.Cells[3] = blank(p), blank(p)
		checkGrid(t, edit.Insert(g, 0, 1, 1, p), in, p)
		checkGrid(t, edit.Delete(g, 0, 1, 1, p), out, p)
	}
}

// P8.3: Up and Down by hand.
func TestUpAndDown(t *testing.T) {
	const r0, r1, r2, r3, r4, none = "a<>", "<>b", "c[]", "bba", "[]c", "..."
	for _, q := range []struct {
		top, bottom, n int
		up, down       api.Grid
	}{
		{0, 4, 1, gridBy(r1, r2, r3, r4, none), gridBy(none, r0, r1, r2, r3)},
		{0, 4, 2, gridBy(r2, r3, r4, none, none), gridBy(none, none, r0, r1, r2)},
		{0, 4, 4, gridBy(r4, none, none, none, none), gridBy(none, none, none, none, r0)},
		{0, 4, 5, gridBy(none, none, none, none, none), gridBy(none, none, none, none, none)},
		{0, 4, 65535, gridBy(none, none, none, none, none), gridBy(none, none, none, none, none)},
		{1, 3, 1, gridBy(r0, r2, r3, none, r4), gridBy(r0, none, r1, r2, r4)},
		{1, 3, 2, gridBy(r0, r3, none, none, r4), gridBy(r0, none, none, r1, r4)},
		{1, 3, 3, gridBy(r0, none, none, none, r4), gridBy(r0, none, none, none, r4)},
		{1, 3, 4, gridBy(r0, none, none, none, r4), gridBy(r0, none, none, none, r4)},
		{0, 1, 1, gridBy(r1, none, r2, r3, r4), gridBy(none, r0, r2, r3, r4)},
		{3, 4, 1, gridBy(r0, r1, r2, r4, none), gridBy(r0, r1, r2, none, r3)},
		{2, 2, 1, gridBy(r0, r1, none, r3, r4), gridBy(r0, r1, none, r3, r4)},
		{0, 0, 2, gridBy(none, r1, r2, r3, r4), gridBy(none, r1, r2, r3, r4)},
		{4, 4, 65535, gridBy(r0, r1, r2, r3, none), gridBy(r0, r1, r2, r3, none)},
	} {
		g := gridBy(r0, r1, r2, r3, r4)
		checkRight(t, edit.Up(g, q.top, q.bottom, q.n, blue), q.up, q.top, q.bottom, q.n)
		checkRight(t, edit.Down(g, q.top, q.bottom, q.n, blue), q.down, q.top, q.bottom, q.n)
	}
}

// P8.3: what leaves the rows as they are: no rows to move, none to move by.
func TestUpAndDownStay(t *testing.T) {
	g := gridBy("a<>", "<>b", "c[]")
	for _, q := range [][3]int{
		{0, 2, 0}, {1, 1, 0}, {1, 0, 1}, {2, 1, 1}, {2, 0, 1},
		{-1, 2, 1}, {-1, 0, 1}, {-2, -1, 1}, {-1, -1, 1}, {0, 3, 1}, {2, 3, 1}, {3, 3, 1}, {3, 4, 1}, {-1, 3, 1}, {0, -1, 1}, {3, 2, 1},
		{math.MinInt, math.MaxInt, 1}, {math.MaxInt, math.MinInt, 1}, {0, math.MaxInt, 1}, {math.MinInt, 2, 1}, {1 << 32, 1<<32 + 2, 1},
	} {
		checkRight(t, edit.Up(g, q[0], q[1], q[2], blue), g, q)
		checkRight(t, edit.Down(g, q[0], q[1], q[2], blue), g, q)
	}
}

// checkMoved asks Up and Down of g.
func checkMoved(t *testing.T, g api.Grid, top, bottom, n int, p api.Pen) {
	t.Helper()
	checkGrid(t, edit.Up(g, top, bottom, n, p), moved(g, top, bottom, n, p), "up", g, top, bottom, n)
	checkGrid(t, edit.Down(g, top, bottom, n, p), moved(g, top, bottom, -n, p), "down", g, top, bottom, n)
}

// P8.3: all tops and bottoms of small grids, those about them, and all numbers
// of rows.
func TestUpAndDownAll(t *testing.T) {
	for _, g := range append(highGrids(), smallGrids()...) {
		for top := -2; top <= g.Rows+1; top++ {
			for bottom := -2; bottom <= g.Rows+1; bottom++ {
				for _, n := range counts(bottom - top + 1) {
					checkMoved(t, g, top, bottom, n, plain)
				}
			}
		}
	}
}

// P8.3: each number of rows that may be asked for.
func TestUpAndDownEachNumber(t *testing.T) {
	g := gridBy("a<>b", "<>[]", "[]cb")
	for n := range api.MaxParam + 1 {
		checkMoved(t, g, 0, 2, n, blue)
		checkMoved(t, g, 1, 2, n, blue)
	}
}

// P8.3: rows that are far off; pens that aren't right.
func TestUpAndDownFarOff(t *testing.T) {
	g := gridBy("a<>", "[]b", "c[]")
	for _, top := range edges(3) {
		for _, bottom := range edges(3) {
			for _, p := range []api.Pen{{}, odd, penOf(math.MinInt, math.MaxInt, math.MinInt)} {
				checkMoved(t, g, top, bottom, 1, p)
			}
		}
	}
}

// P8.4: Line by hand.
func TestLine(t *testing.T) {
	const all = "......."
	checkHand(t, edit.Line, []byHand{
		{0, 0, all},
		{1, 0, "a......"}, // a left one
		{2, 0, "ar....."}, // a right one
		{3, 0, "a<>...."},
		{4, 0, "a<>b..."}, // a left one
		{5, 0, "a<>bg.."}, // a right one
		{6, 0, "a<>b[]."},
		{0, 1, ".<>b[]c"},
		{1, 1, "..rb[]c"}, // a left one
		{2, 1, "...b[]c"}, // a right one
		{4, 1, ".....gc"}, // a left one
		{5, 1, "......c"}, // a right one
		{6, 1, all},
		{0, 2, all}, {2, 2, all}, {4, 2, all}, {6, 2, all},
		{0, 3, handRow}, {2, 3, handRow}, {0, -1, handRow}, {2, math.MinInt, handRow}, {2, math.MaxInt, handRow}, {2, 1 << 32, handRow}, {2, 1<<32 + 1, handRow},
		{-1, 0, handRow}, {7, 0, handRow}, {-1, 1, handRow}, {7, 1, handRow}, {-1, 2, handRow}, {7, 2, handRow},
		{math.MinInt, 0, handRow}, {math.MaxInt, 1, handRow}, {math.MaxInt - 1, 1, handRow}, {math.MaxInt, 2, handRow},
	})
}

// P8.4: Erase by hand.
func TestErase(t *testing.T) {
	const r0, r1, r2, none = "a<>", "<>b", "c[]", "..."
	was, all := gridBy(r0, r1, r2), gridBy(none, none, none)
	for _, q := range []struct {
		r, c, what int
		want       api.Grid
	}{
		{0, 0, 0, all},
		{0, 1, 0, gridBy("a..", none, none)},
		{1, 0, 0, gridBy(r0, none, none)},
		{1, 1, 0, gridBy(r0, "r..", none)},
		{1, 2, 0, gridBy(r0, "<>.", none)},
		{2, 2, 0, gridBy(r0, r1, "cg.")},
		{0, 1, 1, gridBy("..r", r1, r2)},
		{1, 0, 1, gridBy(none, ".rb", r2)},
		{1, 1, 1, gridBy(none, "..b", r2)},
		{1, 2, 1, gridBy(none, none, r2)},
		{2, 0, 1, gridBy(none, none, ".[]")},
		{2, 2, 1, all},
		{0, 0, 2, all}, {1, 1, 2, all}, {2, 2, 2, all},
		{1, 1, 3, was}, {1, 1, -1, was}, {0, 0, 3, was}, {1, 1, math.MinInt, was}, {1, 1, math.MaxInt, was}, {1, 1, 1 << 32, was},
		{-1, 0, 0, was}, {3, 0, 0, was}, {1, -1, 0, was}, {1, 3, 0, was},
		{-1, 0, 1, was}, {3, 0, 1, was}, {1, -1, 1, was}, {1, 3, 1, was},
		{-1, 0, 2, was}, {3, 0, 2, was}, {1, -1, 2, was}, {1, 3, 2, was},
		{math.MaxInt, 0, 0, was}, {math.MaxInt, 0, 1, was}, {math.MinInt, 1, 1, was}, {1, math.MaxInt, 1, was}, {1, math.MinInt, 0, was},
	} {
		checkRight(t, edit.Erase(was, q.r, q.c, q.what, blue), q.want, q.r, q.c, q.what)
	}
}

// eraseCalls are Line and Erase, with the model's.
func eraseCalls() [][2]inRow {
	return [][2]inRow{{edit.Line, lined}, {edit.Erase, erased}}
}

// P8.4: each place of small grids, those about it, and numbers that are no what.
func TestLineAndEraseAll(t *testing.T) {
	for i, call := range eraseCalls() {
		for _, g := range smallGrids() {
			for r := -2; r <= g.Rows+1; r++ {
				for c := -2; c <= g.Cols+1; c++ {
					for what := -2; what <= 4; what++ {
						checkRight(t, call[0](g, r, c, what, plain), call[1](g, r, c, what, plain), i, g, r, c, what)
					}
				}
			}
		}
	}
}

// P8.4: places and whats that are far off; pens that aren't right.
func TestLineAndEraseFarOff(t *testing.T) {
	g := gridBy("a<>", "[]b", "c[]")
	for i, call := range eraseCalls() {
		for _, r := range edges(3) {
			for _, c := range edges(3) {
				for _, what := range append(edges(2), -256, 256, 257, 258, 65535, 65536, 65538) {
					for _, p := range []api.Pen{{}, odd} {
						checkGrid(t, call[0](g, r, c, what, p), call[1](g, r, c, what, p), i, r, c, what)
					}
				}
			}
		}
	}
}

// someCall asks one of the calls, with the model's answer beside it.
func someCall(r *rand.Rand, g api.Grid) (got, want api.Grid) {
	row, c, p := r.Intn(g.Rows+2)-1, r.Intn(g.Cols+2)-1, pick(r, plain, red, green)
	other, what := r.Intn(g.Rows+2)-1, r.Intn(5)-1
	n := pick(r, 0, 1, 1, 2, 3, r.Intn(70), api.MaxParam)
	switch r.Intn(12) {
	case 0, 1:
		return edit.Insert(g, row, c, n, p), inserted(g, row, c, n, p)
	case 2, 3:
		return edit.Delete(g, row, c, n, p), deleted(g, row, c, n, p)
	case 4:
		return edit.Up(g, row, other, n, p), moved(g, row, other, n, p)
	case 5:
		return edit.Down(g, row, other, n, p), moved(g, row, other, -n, p)
	case 6:
		return edit.Line(g, row, c, what, p), lined(g, row, c, what, p)
	case 7:
		what = pick(r, -1, 3, what) // less often all
		return edit.Erase(g, row, c, what, p), erased(g, row, c, what, p)
	}
	put := grid.Put(g, row, c, pick[rune](r, 'n', 0x4E00, 0xAC00), p)
	return put, put
}

// P8.1 to P8.4: many calls, each on the answer of the one ahead, of grids of all
// sizes; all answers are right.
func TestAtRandom(t *testing.T) {
	r := rand.New(rand.NewSource(8))
	for range 300 {
		g := rightGrid(r)
		for range 60 {
			got, want := someCall(r, g)
			checkRight(t, got, want, g)
			g = got
		}
	}
}

// roomy is a copy of l with room behind it that isn't zero.
func roomy(l []api.Cell) []api.Cell {
	return append(slices.Clone(l), left(71, odd), right(red), single(73, green))[:len(l)]
}

func full(l []api.Cell) []api.Cell { return l[:cap(l)] }

func fill(l []api.Cell) {
	for i := range l {
		l[i] = api.Cell{Rune: 99, Kind: 98, Pen: penOf(97, 96, 95)}
	}
}

// calls are all calls of a grid, with something to do and with nothing to do.
func calls() []func(api.Grid) api.Grid {
	var fs []func(api.Grid) api.Grid
	for _, call := range []inRow{edit.Insert, edit.Delete, edit.Up, edit.Down, edit.Line, edit.Erase} {
		for _, r := range []int{-1, 0, 1, 9} {
			for _, c := range []int{-1, 0, 1, 2, 70} {
				for _, n := range []int{-1, 0, 1, 2, 70, math.MinInt, math.MaxInt} {
					fs = append(fs, func(g api.Grid) api.Grid { return call(g, r, c, n, plain) })
				}
			}
		}
	}
	return fs
}

// someGrids are right ones, and some that aren't.
func someGrids() []api.Grid {
	gs := slices.Concat(smallGrids()[:200], highGrids()[:20])
	r := rand.New(rand.NewSource(80))
	for range 200 {
		gs = append(gs, anyGrid(r))
	}
	return append(gs, rightGrid(r), api.Grid{}, gridOf(2, 2), gridOf(1, 1, blank(red), blank(red)), gridOf(2, 2, blank(red), blank(red), blank(red)))
}

// R2: what is handed in stays, its spare room too.
func TestHandedInStays(t *testing.T) {
	for _, g := range someGrids() {
		g.Cells = roomy(g.Cells)
		was := slices.Clone(full(g.Cells))
		for i, f := range calls() {
			f(g)
			if !slices.Equal(full(g.Cells), was) {
				t.Fatalf("call %d: %s", i, short(g))
			}
		}
	}
}

// R2: an answer isn't what was handed in, and is nobody else's: either is
// written full, and what came ahead and what comes later stays; so does an answer
// when what was handed in is written full.
func TestAnswersAreNew(t *testing.T) {
	for _, g := range someGrids() {
		for i, f := range calls() {
			g.Cells = roomy(g.Cells)
			was := slices.Clone(full(g.Cells))
			ahead := f(g)
			want := ahead
			want.Cells = slices.Clone(ahead.Cells)
			fill(full(f(g).Cells))
			if !slices.Equal(full(g.Cells), was) || !like(ahead, want) || !like(f(g), want) {
				t.Fatalf("call %d: %s", i, short(g))
			}
			fill(full(g.Cells))
			if !like(ahead, want) {
				t.Fatalf("call %d: kept: %s", i, short(g))
			}
			g.Cells = was[:len(g.Cells)]
		}
	}
}

// R1: numbers of cells and rows that nothing is promised of: the call ends, and
// gives a grid of the same size, right where it was.
func TestNumbersBeyond(t *testing.T) {
	g := gridBy(handRow, handRow, handRow)
	for _, n := range []int{-1, -2, -7, -65535, -1 << 32, math.MinInt, math.MinInt + 1, 65536, 1 << 32, 1 << 62, math.MaxInt / 7, math.MaxInt - 1, math.MaxInt} {
		for r := range g.Rows {
			for c := range g.Cols {
				for _, got := range []api.Grid{edit.Insert(g, r, c, n, red), edit.Delete(g, r, c, n, red), edit.Up(g, r, c, n, red), edit.Down(g, r, c, n, red)} {
					if got.Rows != g.Rows || got.Cols != g.Cols || !isRight(got) {
						t.Fatalf("%d at %d, %d: %s", n, r, c, short(got))
					}
				}
			}
		}
	}
}

// R1: grids that aren't as great as they say, of which nothing is promised, but
// that all ends.
func TestSizesThatAreNone(t *testing.T) {
	cells := slices.Repeat(cellsBy("a<>"), 2)
	for _, rows := range edges(42) {
		for _, cols := range edges(62) {
			for _, l := range [][]api.Cell{nil, cells[:1], cells[:5], cells} {
				g := gridOf(rows, cols, l...)
				for _, r := range []int{math.MinInt, -1, 0, 1, rows - 1, rows, math.MaxInt} {
					edit.Insert(g, r, 1, 1, plain)
					edit.Delete(g, r, 1, 1, plain)
					edit.Up(g, 0, r, 1, plain)
					edit.Down(g, r, rows-1, 1, plain)
					edit.Line(g, r, 1, 0, plain)
					edit.Erase(g, r, 1, 0, plain)
				}
			}
		}
	}
}

// R1: grids, places, numbers and pens of any numbers at all.
func TestAnyNumbers(t *testing.T) {
	r := rand.New(rand.NewSource(1))
	for range 30000 {
		g, p := anyGrid(r), anyPen(r)
		row, c, n := pick(r, edges(5)...), pick(r, edges(9)...), pick(r, edges(9)...)
		for _, call := range []inRow{edit.Insert, edit.Delete, edit.Up, edit.Down, edit.Line, edit.Erase} {
			call(g, row, c, n, p)
		}
	}
}

// The chapter's runs.
func TestRuns(t *testing.T) {
	g := grid.New(3, 4, plain)
	for c, x := range "abcd" {
		g = grid.Put(g, 0, c, x, plain)
	}
	g = grid.Put(g, 1, 0, 'e', plain)
	g = grid.Put(g, 2, 0, 'f', plain)
	if s := grid.Text(edit.Insert(g, 0, 1, 1, plain), 0); s != "a bc" {
		t.Errorf("%q", s)
	}
	if s := grid.Text(edit.Delete(g, 0, 1, 2, plain), 0); s != "ad  " {
		t.Errorf("%q", s)
	}
	up := edit.Up(g, 0, 2, 1, plain)
	for r, want := range []string{"e   ", "f   ", "    "} {
		if s := grid.Text(up, r); s != want {
			t.Errorf("%d: %q, not %q", r, s, want)
		}
	}
}
