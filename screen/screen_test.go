package screen_test

import (
	"fmt"
	"math"
	"math/rand"
	"slices"
	"strings"
	"testing"

	"linguist/api"
	"linguist/cell"
	"linguist/grid"
	"linguist/screen"
	"linguist/tabs"
)

// short tells a screen without all of many cells.
func short(s api.Screen) string {
	s.Grid.Cells = s.Grid.Cells[:min(len(s.Grid.Cells), 15)]
	return fmt.Sprintf("%+v", s)
}

// checkScreen holds two screens against each other; what was asked is told only
// if they differ, since telling takes longer than asking.
func checkScreen(t *testing.T, got, want api.Screen, asked ...any) {
	t.Helper()
	if !alike(got, want) {
		t.Fatalf("%v:\n%s, not\n%s", asked, short(got), short(want))
	}
}

func checkRight(t *testing.T, want bool, ss ...api.Screen) {
	t.Helper()
	for i, s := range ss {
		if screen.Right(s) != want {
			t.Errorf("%d: %s: not %v", i, short(s), want)
		}
	}
}

// P11.1: each field of a new screen, by hand.
func TestNew(t *testing.T) {
	b := single(32, plain)
	checkScreen(t, screen.New(2, 3), api.Screen{
		Grid: api.Grid{Rows: 2, Cols: 3, Cells: []api.Cell{b, b, b, b, b, b}},
		Row:  0, Col: 0, Pending: false,
		Top: 0, Bottom: 1,
		Pen:  api.Pen{Fore: api.Default, Back: api.Default, Flags: 0},
		Tabs: 0,
		Sets: [2]byte{'B', 'B'}, Shift: 0,
		Wrap: true, Origin: false, Shown: true, Keys: false, Pad: false,
		Saved: api.Saved{
			Row: 0, Col: 0, Pen: api.Pen{Fore: api.Default, Back: api.Default, Flags: 0},
			Sets: [2]byte{'B', 'B'}, Shift: 0, Origin: false,
		},
	}, "2 by 3")
}

// P11.1: the limits by their numbers, and what hangs on them.
func TestNewLimits(t *testing.T) {
	eighths := []int{8, 16, 24, 32, 40, 48, 56}
	for _, q := range []struct {
		rows, cols, wantRows, wantCols int
		stops                          []int
	}{
		{1, 1, 1, 1, nil}, {2, 3, 2, 3, nil}, {1, 60, 1, 60, eighths}, {40, 1, 40, 1, nil},
		{5, 8, 5, 8, nil}, {5, 9, 5, 9, eighths[:1]}, {24, 16, 24, 16, eighths[:1]}, {24, 17, 24, 17, eighths[:2]},
		{39, 56, 39, 56, eighths[:6]}, {39, 57, 39, 57, eighths}, {39, 59, 39, 59, eighths}, {40, 60, 40, 60, eighths},
		{40, 61, 40, 60, eighths}, {41, 60, 40, 60, eighths}, {41, 61, 40, 60, eighths}, {60, 40, 40, 40, eighths[:4]},
		{0, 0, 1, 1, nil}, {0, 10, 1, 10, eighths[:1]}, {10, 0, 10, 1, nil}, {-1, -1, 1, 1, nil}, {-1, 10, 1, 10, eighths[:1]}, {10, -1, 10, 1, nil},
		{1 << 32, 1 << 32, 40, 60, eighths}, {math.MaxInt, math.MinInt, 40, 1, nil}, {math.MinInt, math.MaxInt, 1, 60, eighths},
	} {
		s := screen.New(q.rows, q.cols)
		g := s.Grid
		if g.Rows != q.wantRows || g.Cols != q.wantCols || len(g.Cells) != q.wantRows*q.wantCols || s.Top != 0 || s.Bottom != q.wantRows-1 {
			t.Errorf("%v: %s", q, short(s))
		}
		if got := tabs.List(s.Tabs); !slices.Equal(got, q.stops) {
			t.Errorf("%v: %v", q, got)
		}
	}
}

// P11.1, P11.2: New of all sizes about the limits, and far off; all are right.
func TestNewAll(t *testing.T) {
	for _, rows := range edges(42) {
		for _, cols := range edges(62) {
			got, want := screen.New(rows, cols), newBy(rows, cols)
			if !slices.Equal(got.Grid.Cells, want.Grid.Cells) {
				t.Fatal(rows, cols, short(got))
			}
			checkRight(t, true, got)
			got.Grid.Cells, want.Grid.Cells = nil, nil
			checkScreen(t, got, want, rows, cols)
		}
	}
}

// change is one thing done to a screen, and whether it is right behind that.
type change struct {
	name  string
	right bool
	do    func(s *api.Screen)
}

// checkChanges does each change alone to a right screen.
func checkChanges(t *testing.T, s api.Screen, of []change) {
	t.Helper()
	checkRight(t, true, s)
	for _, q := range of {
		if got := changed(s, q.do); screen.Right(got) != q.right {
			t.Errorf("%s: not %v", q.name, q.right)
		}
	}
}

// numbers are changes of one number to each of those, right where told.
func numbers(name string, field func(s *api.Screen) *int, rightOnes []int, wrong []int) []change {
	var all []change
	for i, n := range append(slices.Clone(rightOnes), wrong...) {
		told := fmt.Sprint(name, " ", n)
		all = append(all, change{told, i < len(rightOnes), func(s *api.Screen) { *field(s) = n }})
	}
	return all
}

// P11.2: the cursor's place and the saved one's, on both sides of their bounds.
func TestRightPlaces(t *testing.T) {
	far := []int{math.MinInt, -1 << 32, -256, 256, 1 << 32, 1<<32 + 1, math.MaxInt}
	rows, cols := append(far, -1, 3, 4, 5), append(far, -1, 5, 6)
	s := some()
	s.Pending = false
	checkChanges(t, s, slices.Concat(
		numbers("Row", func(s *api.Screen) *int { return &s.Row }, []int{0, 1, 2}, rows),
		numbers("Col", func(s *api.Screen) *int { return &s.Col }, []int{0, 1, 2, 3, 4}, cols),
		numbers("Saved.Row", func(s *api.Screen) *int { return &s.Saved.Row }, []int{0, 1, 2}, rows),
		numbers("Saved.Col", func(s *api.Screen) *int { return &s.Saved.Col }, []int{0, 1, 2, 3, 4}, cols),
	))
	rows, cols = append(far, -1, 40, 41), append(far, -1, 60, 61)
	checkChanges(t, screen.New(40, 60), slices.Concat(
		numbers("Row", func(s *api.Screen) *int { return &s.Row }, []int{0, 20, 39}, rows),
		numbers("Col", func(s *api.Screen) *int { return &s.Col }, []int{0, 40, 59}, cols),
		numbers("Saved.Row", func(s *api.Screen) *int { return &s.Saved.Row }, []int{0, 20, 39}, rows),
		numbers("Saved.Col", func(s *api.Screen) *int { return &s.Saved.Col }, []int{0, 40, 59}, cols),
	))
}

// P11.2: the margins, of screens of one row and of more: all pairs of near
// numbers and of far ones.
func TestRightMargins(t *testing.T) {
	for _, q := range []struct {
		rows  int
		right [][2]int
	}{
		{1, [][2]int{{0, 0}}},
		{2, [][2]int{{0, 1}}},
		{3, [][2]int{{0, 1}, {0, 2}, {1, 2}}},
		{4, [][2]int{{0, 1}, {0, 2}, {0, 3}, {1, 2}, {1, 3}, {2, 3}}},
	} {
		for _, top := range edges(6) {
			for _, bottom := range edges(6) {
				s := screen.New(q.rows, 2)
				s.Top, s.Bottom = top, bottom
				checkRight(t, slices.Contains(q.right, [2]int{top, bottom}), s)
			}
		}
	}
	s := screen.New(40, 60)
	s.Top = 38
	checkRight(t, true, s)
	s.Top = 39
	checkRight(t, false, s)
	s.Bottom = 40
	checkRight(t, false, s)
}

// P11.2: the pen and the saved one.
func TestRightPens(t *testing.T) {
	var all []change
	add := func(p api.Pen, right bool) {
		all = append(all,
			change{fmt.Sprint("Pen ", p), right, func(s *api.Screen) { s.Pen = p }},
			change{fmt.Sprint("Saved.Pen ", p), right, func(s *api.Screen) { s.Saved.Pen = p }})
	}
	for _, c := range []int{-1, 0, 7, 8, 255, 1 << 24, 1<<25 - 1} {
		add(penOf(c, -1, 0), true)
		add(penOf(-1, c, 0), true)
	}
	for _, c := range []int{math.MinInt, -2, 256, 1<<24 - 1, 1 << 25, 1 << 32, math.MaxInt} {
		add(penOf(c, -1, 0), false)
		add(penOf(-1, c, 0), false)
	}
	for n := range 256 {
		add(penOf(-1, -1, n), true)
	}
	for _, n := range []int{math.MinInt, -1, 256, 257, 511, 1 << 32, math.MaxInt} {
		add(penOf(-1, -1, n), false)
	}
	checkChanges(t, some(), all)
	checkChanges(t, screen.New(1, 1), all)
}

// P11.2: each byte as each set, of the saved ones too; numbers as each shift.
func TestRightSets(t *testing.T) {
	var all []change
	for b := range 256 {
		for i := range 2 {
			ok := b == 'B' || b == '0'
			all = append(all,
				change{fmt.Sprint("Sets ", i, b), ok, func(s *api.Screen) { s.Sets[i] = byte(b) }},
				change{fmt.Sprint("Saved.Sets ", i, b), ok, func(s *api.Screen) { s.Saved.Sets[i] = byte(b) }})
		}
	}
	wrong := []int{math.MinInt, -1 << 32, -256, -2, -1, 2, 3, 'B', '0', 256, 257, 1 << 32, 1<<32 + 1, math.MaxInt}
	all = slices.Concat(all,
		numbers("Shift", func(s *api.Screen) *int { return &s.Shift }, []int{0, 1}, wrong),
		numbers("Saved.Shift", func(s *api.Screen) *int { return &s.Saved.Shift }, []int{0, 1}, wrong))
	checkChanges(t, some(), all)
	checkChanges(t, screen.New(2, 3), all)
}

// P11.2: what is pending, with Wrap and without, in each column.
func TestRightPending(t *testing.T) {
	for _, cols := range []int{1, 2, 3, 60} {
		for col := range cols {
			for _, wrap := range []bool{false, true} {
				for _, pending := range []bool{false, true} {
					s := screen.New(3, cols)
					s.Row, s.Col, s.Wrap, s.Pending = 1, col, wrap, pending
					checkRight(t, !pending || wrap && col == cols-1, s)
				}
			}
		}
	}
	s := screen.New(2, 3)
	s.Pending, s.Saved.Col = true, 2 // the saved one isn't asked
	checkRight(t, false, s)
}

// P11.2: modes and stops are right, whatever they are, and so is the saved
// origin.
func TestRightRest(t *testing.T) {
	var all []change
	for n := range 32 {
		all = append(all, change{fmt.Sprint("modes ", n), true, func(s *api.Screen) {
			s.Origin, s.Shown, s.Keys, s.Pad, s.Saved.Origin = n&1 > 0, n&2 > 0, n&4 > 0, n&8 > 0, n&16 > 0
		}})
	}
	for _, stops := range []uint64{0, 1, 1 << 63, math.MaxUint64, 1 << 5} {
		all = append(all, change{fmt.Sprint("Tabs ", stops), true, func(s *api.Screen) { s.Tabs = stops }})
	}
	checkChanges(t, some(), all)
	checkChanges(t, screen.New(1, 1), all)
}

// P11.2: grids that aren't right, with all else as it was.
func TestRightGrids(t *testing.T) {
	cells := func(name string, do func(g *api.Grid)) change {
		return change{name, false, func(s *api.Screen) { do(&s.Grid) }}
	}
	checkChanges(t, some(), []change{
		cells("no cells", func(g *api.Grid) { g.Cells = nil }),
		cells("no cells, but a list", func(g *api.Grid) { g.Cells = []api.Cell{} }),
		cells("one too few", func(g *api.Grid) { g.Cells = g.Cells[:14] }),
		cells("one too many", func(g *api.Grid) { g.Cells = append(g.Cells, single(32, plain)) }),
		cells("a row too many", func(g *api.Grid) { g.Rows = 4 }),
		cells("a column too many", func(g *api.Grid) { g.Cols = 6 }),
		cells("the other way round", func(g *api.Grid) { g.Rows, g.Cols = 5, 3 }),
		cells("below nought", func(g *api.Grid) { g.Rows, g.Cols = -3, -5 }),
		cells("no rows", func(g *api.Grid) { g.Rows = 0 }),
		cells("nothing", func(g *api.Grid) { *g = api.Grid{} }),
		cells("a rune without width", func(g *api.Grid) { g.Cells[0].Rune = 0x301 }),
		cells("a wide rune in one cell", func(g *api.Grid) { g.Cells[14].Rune = 0x4E00 }),
		cells("a lost left half", func(g *api.Grid) { g.Cells[2] = single(32, green) }),
		cells("a lost right half", func(g *api.Grid) { g.Cells[1] = single(32, green) }),
		cells("two pens", func(g *api.Grid) { g.Cells[2].Pen = red }),
		cells("a pen that isn't right", func(g *api.Grid) { g.Cells[7].Pen.Flags = 256 }),
		cells("no kind", func(g *api.Grid) { g.Cells[9].Kind = 3 }),
	})
	checkRight(t, false, api.Screen{})
}

// P11.2: screens at random, right ones, and such with numbers changed.
func TestRightAtRandom(t *testing.T) {
	r := rand.New(rand.NewSource(112))
	count := map[string]int{}
	for range 40000 {
		s := anyScreen(r)
		told := wrongs(s)
		if screen.Right(s) != (len(told) == 0) {
			t.Fatalf("%s: %v", short(s), told)
		}
		if len(told) < 2 {
			count[strings.Join(told, "")]++
		}
	}
	for _, what := range []string{"", "grid", "Row", "Top", "Bottom", "Top and Bottom", "Pen", "Sets", "Shift", "Pending without Wrap", "Pending ahead of the last column", "Saved.Row", "Saved.Col", "Saved.Pen", "Saved.Sets", "Saved.Shift"} {
		if count[what] < 20 {
			t.Errorf("%q alone: %d times", what, count[what])
		}
	}
}

func checkSame(t *testing.T, a, b api.Screen, same, looks bool, what string) {
	t.Helper()
	if screen.Same(a, b) != same || screen.Same(b, a) != same {
		t.Errorf("%s: same isn't %v", what, same)
	}
	if screen.Looks(a, b) != looks || screen.Looks(b, a) != looks {
		t.Errorf("%s: looks isn't %v", what, looks)
	}
}

// isSeen tells whether Looks asks of that leaf.
func isSeen(name string) bool {
	return strings.HasPrefix(name, ".Grid.") || name == ".Row" || name == ".Col" || name == ".Shown"
}

// P11.2: Same and Looks of a screen and of ones that differ from it in one thing
// alone, for each that a screen holds.
func TestSameButOne(t *testing.T) {
	for _, s := range []api.Screen{some(), screen.New(2, 3), screen.New(1, 1), {}} {
		checkSame(t, s, s, true, true, "itself")
		checkSame(t, s, own(s), true, true, "a like one")
		for i, x := range leaves(&s) {
			for _, v := range x.others() {
				other := own(s)
				leaves(&other)[i].at.Set(v)
				checkSame(t, s, other, false, !isSeen(x.name), fmt.Sprint(x.name, " ", v))
			}
		}
	}
}

// P11.2: what a screen holds, by hand, so that nothing is left out of the test
// ahead of this one.
func TestSameByHand(t *testing.T) {
	type one struct {
		looks bool
		do    func(s *api.Screen)
	}
	for i, q := range []one{
		{false, func(s *api.Screen) { s.Grid = grid.New(3, 5, plain) }},
		{false, func(s *api.Screen) { s.Grid.Cells[14].Rune = 'f' }},
		{false, func(s *api.Screen) { s.Grid.Cells[0].Pen = green }},
		{false, func(s *api.Screen) { s.Grid.Cells[1].Kind = api.Single }},
		{false, func(s *api.Screen) { s.Grid.Rows, s.Grid.Cols = 5, 3 }},
		{false, func(s *api.Screen) { s.Row = 0 }},
		{false, func(s *api.Screen) { s.Col = 3 }},
		{true, func(s *api.Screen) { s.Pending = false }},
		{true, func(s *api.Screen) { s.Top = 0 }},
		{true, func(s *api.Screen) { s.Bottom = 1 }},
		{true, func(s *api.Screen) { s.Pen.Fore = 4 }},
		{true, func(s *api.Screen) { s.Pen.Back = 4 }},
		{true, func(s *api.Screen) { s.Pen.Flags |= api.Bold }},
		{true, func(s *api.Screen) { s.Tabs = 1 << 2 }},
		{true, func(s *api.Screen) { s.Sets[0] = 'B' }},
		{true, func(s *api.Screen) { s.Sets[1] = '0' }},
		{true, func(s *api.Screen) { s.Sets[0], s.Sets[1] = s.Sets[1], s.Sets[0] }},
		{true, func(s *api.Screen) { s.Shift = 0 }},
		{true, func(s *api.Screen) { s.Wrap = false }},
		{true, func(s *api.Screen) { s.Origin = false }},
		{false, func(s *api.Screen) { s.Shown = true }},
		{true, func(s *api.Screen) { s.Keys = false }},
		{true, func(s *api.Screen) { s.Pad = false }},
		{true, func(s *api.Screen) { s.Saved = api.Saved{} }},
		{true, func(s *api.Screen) { s.Saved.Row = 1 }},
		{true, func(s *api.Screen) { s.Saved.Col = 4 }},
		{true, func(s *api.Screen) { s.Saved.Pen.Flags = 0 }},
		{true, func(s *api.Screen) { s.Saved.Sets[0] = '0' }},
		{true, func(s *api.Screen) { s.Saved.Sets[1] = 'B' }},
		{true, func(s *api.Screen) { s.Saved.Shift = 0 }},
		{true, func(s *api.Screen) { s.Saved.Origin = false }},
	} {
		checkSame(t, some(), changed(some(), q.do), false, q.looks, fmt.Sprint(i))
	}
}

// P11.2: sizes with as many cells, and with fewer and more of them.
func TestSameSizes(t *testing.T) {
	sizes := [][2]int{{1, 1}, {1, 2}, {2, 1}, {1, 12}, {12, 1}, {2, 6}, {6, 2}, {3, 4}, {4, 3}}
	for _, a := range sizes {
		for _, b := range sizes {
			x, y := screen.New(a[0], a[1]), screen.New(b[0], b[1])
			checkSame(t, x, y, a == b, a == b, fmt.Sprint(a, b))
			y.Top, y.Bottom, y.Tabs = x.Top, x.Bottom, x.Tabs
			checkSame(t, x, y, a == b, a == b, fmt.Sprint(a, b))
		}
	}
	fewer := changed(some(), func(s *api.Screen) { s.Grid.Cells = s.Grid.Cells[:14] })
	checkSame(t, some(), fewer, false, false, "fewer cells")
}

// P11.2: screens at random: Same as leaf by leaf, and Looks as of those that are
// seen; nil and empty cells are the same.
func TestSameAtRandom(t *testing.T) {
	r := rand.New(rand.NewSource(113))
	for range 10000 {
		a := anyScreen(r)
		b := own(a)
		for range r.Intn(3) {
			setSome(r, &b)
		}
		x, y := rest(&a), rest(&b)
		seen := slices.Equal(a.Grid.Cells, b.Grid.Cells)
		for i := range x {
			seen = seen && (!isSeen(x[i].name) || x[i].at.Equal(y[i].at))
		}
		checkSame(t, a, b, alike(a, b), seen, short(a))
	}
	checkSame(t, api.Screen{}, api.Screen{Grid: api.Grid{Cells: []api.Cell{}}}, true, true, "nil and empty")
}

// P11.2: Copy gives the same.
func TestCopy(t *testing.T) {
	r := rand.New(rand.NewSource(114))
	checkScreen(t, screen.Copy(some()), some(), "some")
	checkScreen(t, screen.Copy(screen.New(40, 60)), newBy(40, 60), "new")
	checkScreen(t, screen.Copy(api.Screen{}), api.Screen{}, "none")
	for range 2000 {
		s := anyScreen(r)
		got := screen.Copy(s)
		checkScreen(t, got, s)
		checkSame(t, got, s, true, true, "a copy")
	}
}

// by gives some's rows as texts, with a point for the right half of a rune.
func by(s api.Screen) []string {
	var rows []string
	for l := range slices.Chunk(s.Grid.Cells, s.Grid.Cols) {
		row := ""
		for _, c := range l {
			if c.Kind == api.Right {
				row += "."
				continue
			}
			row += string(c.Rune)
		}
		rows = append(rows, row)
	}
	return rows
}

// P11.3: Sized by hand: what is left of the rows, and where the cursors are.
func TestSized(t *testing.T) {
	const r0, r1, r2 = "a一.b ", " c가.d", "丁.각.e"
	for _, q := range []struct {
		rows, cols, wantRows, wantCols int
		at, saved                      [2]int
		want                           []string
	}{
		{3, 5, 3, 5, [2]int{1, 4}, [2]int{2, 3}, []string{r0, r1, r2}},
		{4, 5, 4, 5, [2]int{1, 4}, [2]int{2, 3}, []string{r0, r1, r2, "     "}},
		{3, 7, 3, 7, [2]int{1, 4}, [2]int{2, 3}, []string{r0 + "  ", r1 + "  ", r2 + "  "}},
		{2, 5, 2, 5, [2]int{1, 4}, [2]int{1, 3}, []string{r0, r1}},
		{1, 5, 1, 5, [2]int{0, 4}, [2]int{0, 3}, []string{r0}},
		{3, 4, 3, 4, [2]int{1, 3}, [2]int{2, 3}, []string{"a一.b", " c가.", "丁.각."}},
		{3, 3, 3, 3, [2]int{1, 2}, [2]int{2, 2}, []string{"a一.", " c ", "丁. "}}, // cut at the edge
		{3, 2, 3, 2, [2]int{1, 1}, [2]int{2, 1}, []string{"a ", " c", "丁."}},    // cut at the edge
		{3, 1, 3, 1, [2]int{1, 0}, [2]int{2, 0}, []string{"a", " ", " "}},       // cut at the edge
		{1, 7, 1, 7, [2]int{0, 4}, [2]int{0, 3}, []string{r0 + "  "}},
		{5, 2, 5, 2, [2]int{1, 1}, [2]int{2, 1}, []string{"a ", " c", "丁.", "  ", "  "}},
		{1, 1, 1, 1, [2]int{0, 0}, [2]int{0, 0}, []string{"a"}},
		{0, 0, 1, 1, [2]int{0, 0}, [2]int{0, 0}, []string{"a"}},
		{-1, 5, 1, 5, [2]int{0, 4}, [2]int{0, 3}, []string{r0}},
		{3, -1, 3, 1, [2]int{1, 0}, [2]int{2, 0}, []string{"a", " ", " "}},
		{math.MinInt, math.MinInt, 1, 1, [2]int{0, 0}, [2]int{0, 0}, []string{"a"}},
	} {
		got := screen.Sized(some(), q.rows, q.cols)
		if got.Grid.Rows != q.wantRows || got.Grid.Cols != q.wantCols || !slices.Equal(by(got), q.want) {
			t.Errorf("%d by %d: %q", q.rows, q.cols, by(got))
		}
		if at, saved := [2]int{got.Row, got.Col}, [2]int{got.Saved.Row, got.Saved.Col}; at != q.at || saved != q.saved {
			t.Errorf("%d by %d: at %v, saved at %v", q.rows, q.cols, at, saved)
		}
		if got.Pending || got.Top != 0 || got.Bottom != q.wantRows-1 || got.Tabs != 0 {
			t.Errorf("%d by %d: %s", q.rows, q.cols, short(got))
		}
		checkRight(t, true, got)
	}
}

// P11.3: to the limits, and beyond them: new cells are plain, not of the pen.
func TestSizedLimits(t *testing.T) {
	for _, q := range [][2]int{{40, 60}, {41, 61}, {40, 61}, {1 << 32, 60}, {math.MaxInt, math.MaxInt}} {
		got := screen.Sized(some(), q[0], q[1])
		if got.Grid.Rows != 40 || got.Grid.Cols != 60 || got.Top != 0 || got.Bottom != 39 || got.Row != 1 || got.Col != 4 || got.Pending {
			t.Errorf("%v: %s", q, short(got))
		}
		if stops := tabs.List(got.Tabs); !slices.Equal(stops, []int{8, 16, 24, 32, 40, 48, 56}) {
			t.Errorf("%v: %v", q, stops)
		}
		for i, c := range got.Grid.Cells {
			if (i/60 >= 3 || i%60 >= 5) && c != single(32, plain) {
				t.Fatalf("%v: %d: %v", q, i, c)
			}
		}
		checkRight(t, true, got)
	}
}

// P11.3: what else stays, each thing that a screen holds.
func TestSizedStays(t *testing.T) {
	goes := func(name string) bool {
		return strings.HasPrefix(name, ".Grid.") || slices.Contains([]string{".Row", ".Col", ".Pending", ".Top", ".Bottom", ".Tabs", ".Saved.Row", ".Saved.Col"}, name)
	}
	count := 0
	for _, size := range [][2]int{{3, 5}, {1, 1}, {4, 9}, {40, 60}} {
		for _, s := range []api.Screen{some(), screen.New(3, 5)} {
			got := screen.Sized(s, size[0], size[1])
			now := rest(&got)
			for i, x := range rest(&s) {
				if !goes(x.name) && !now[i].at.Equal(x.at) {
					t.Errorf("%v: %s", size, x.name)
				}
				if !goes(x.name) {
					count++
				}
			}
		}
	}
	if count != 8*18 {
		t.Error(count)
	}
}

// P11.3: the stops are the new width's, those that were set are gone, also where
// the size stays.
func TestSizedStops(t *testing.T) {
	s := screen.New(2, 20)
	s.Tabs = math.MaxUint64
	for cols := 1; cols <= 60; cols++ {
		if got := screen.Sized(s, 2, cols); got.Tabs != stopsBy(cols) {
			t.Errorf("%d: %v", cols, tabs.List(got.Tabs))
		}
	}
	if got := tabs.List(screen.Sized(s, 2, 17).Tabs); !slices.Equal(got, []int{8, 16}) {
		t.Error(got)
	}
	s.Tabs = 0
	if got := tabs.List(screen.Sized(s, 2, 20).Tabs); !slices.Equal(got, []int{8, 16}) {
		t.Error(got)
	}
}

// P11.3: each place of the cursor and of the saved one, in each size about.
func TestSizedCursors(t *testing.T) {
	s := screen.New(4, 5)
	for row := range 4 {
		for col := range 5 {
			s.Row, s.Col, s.Pending = row, col, col == 4
			s.Saved.Row, s.Saved.Col = 3-row, 4-col
			for rows := -1; rows <= 6; rows++ {
				for cols := -1; cols <= 7; cols++ {
					checkScreen(t, screen.Sized(s, rows, cols), sizedBy(s, rows, cols), row, col, rows, cols)
				}
			}
		}
	}
}

// P11.3: all sizes about the limits, and far off.
func TestSizedAll(t *testing.T) {
	for _, s := range []api.Screen{some(), screen.New(39, 59)} {
		s.Saved.Row, s.Saved.Col = s.Grid.Rows-1, s.Grid.Cols-1
		for _, rows := range edges(42) {
			for _, cols := range edges(62) {
				got, want := screen.Sized(s, rows, cols), sizedBy(s, rows, cols)
				if !slices.Equal(got.Grid.Cells, want.Grid.Cells) || !screen.Right(got) {
					t.Fatal(rows, cols, short(got))
				}
				got.Grid.Cells, want.Grid.Cells = nil, nil
				checkScreen(t, got, want, rows, cols)
			}
		}
	}
}

// P11.3: there and back again: what was cut off is gone, what wasn't is there;
// the cursor doesn't go back, nor do margins, stops, and what was pending.
func TestSizedThereAndBack(t *testing.T) {
	got := screen.Sized(screen.Sized(some(), 9, 20), 3, 5)
	want := some()
	want.Top, want.Bottom, want.Tabs, want.Pending = 0, 2, 0, false
	checkScreen(t, got, want, "more")

	got = screen.Sized(screen.Sized(some(), 2, 3), 3, 5)
	if rows := by(got); !slices.Equal(rows, []string{"a一.  ", " c   ", "     "}) {
		t.Errorf("%q", rows)
	}
	if got.Row != 1 || got.Col != 2 || got.Saved.Row != 1 || got.Saved.Col != 2 || got.Bottom != 2 {
		t.Error(short(got))
	}
	if got.Grid.Cells[7] != single(32, red) || got.Grid.Cells[8] != single(32, plain) {
		t.Error(got.Grid.Cells)
	}
}

// P11.3: sizes behind each other, of screens at random; a right one stays right.
func TestSizedAtRandom(t *testing.T) {
	r := rand.New(rand.NewSource(115))
	for range 500 {
		s := rightScreen(r)
		checkRight(t, true, s)
		for range 6 {
			rows, cols := pick(r, -1, 0, 1, 2, 3, 5, 9), pick(r, -1, 0, 1, 2, 3, 7, 9, 18)
			got := screen.Sized(s, rows, cols)
			checkScreen(t, got, sizedBy(s, rows, cols), rows, cols, short(s))
			checkRight(t, true, got)
			s = got
		}
	}
}

// P11.4: Fill keeps the back alone.
func TestFill(t *testing.T) {
	for _, q := range []struct{ pen, want api.Pen }{
		{plain, plain},
		{penOf(1, -1, api.Bold), plain},
		{penOf(-1, 4, api.Inverse), penOf(-1, 4, 0)},
		{penOf(3, 4, 255), penOf(-1, 4, 0)},
		{penOf(3, 0, 255), penOf(-1, 0, 0)},
		{penOf(0, 255, 0), penOf(-1, 255, 0)},
		{penOf(1<<24, 1<<24, 1), penOf(-1, 1<<24, 0)},
		{penOf(-1, 1<<24+0x010203, 128), penOf(-1, 1<<24+0x010203, 0)},
		{penOf(1<<25-1, 1<<25-1, 0), penOf(-1, 1<<25-1, 0)},
	} {
		for _, s := range []api.Screen{some(), screen.New(1, 1)} {
			s.Pen = q.pen
			s.Saved.Pen = penOf(6, 7, 8)
			if got := screen.Fill(s); got != q.want || !cell.Right(got) {
				t.Errorf("%v: %v", q.pen, got)
			}
		}
	}
	if got := screen.Fill(screen.New(2, 3)); got != plain {
		t.Error(got)
	}
}

// roomy is a copy of s with room behind its cells that isn't zero.
func roomy(s api.Screen) api.Screen {
	n := len(s.Grid.Cells)
	s.Grid.Cells = append(own(s).Grid.Cells, left(71, odd), right(red), single(73, green))[:n]
	return s
}

func full(s api.Screen) []api.Cell { return s.Grid.Cells[:cap(s.Grid.Cells)] }

func fill(l []api.Cell) {
	for i := range l {
		l[i] = api.Cell{Rune: 99, Kind: 98, Pen: penOf(97, 96, 95)}
	}
}

// calls are all calls that make a screen of one, with something to do and with
// nothing to do, and New.
func calls() []func(api.Screen) api.Screen {
	fs := []func(api.Screen) api.Screen{
		screen.Copy,
		func(api.Screen) api.Screen { return screen.New(2, 3) },
		func(s api.Screen) api.Screen { return screen.Sized(s, s.Grid.Rows, s.Grid.Cols) },
	}
	for _, size := range [][2]int{{3, 5}, {1, 1}, {2, 9}, {4, 2}, {0, -1}, {41, 61}} {
		fs = append(fs, func(s api.Screen) api.Screen { return screen.Sized(s, size[0], size[1]) })
	}
	return fs
}

// someScreens are right ones, and some that aren't.
func someScreens() []api.Screen {
	ss := []api.Screen{some(), screen.New(1, 1), screen.New(3, 5), {}}
	r := rand.New(rand.NewSource(110))
	for range 300 {
		ss = append(ss, anyScreen(r))
	}
	for _, cells := range [][]api.Cell{nil, {}, some().Grid.Cells[:14], append(some().Grid.Cells, single(32, red))} {
		s := some()
		s.Grid.Cells = cells
		ss = append(ss, s)
	}
	return ss
}

// R2: what is handed in stays, its spare room too.
func TestHandedInStays(t *testing.T) {
	for _, s := range someScreens() {
		s = roomy(s)
		was, cells := own(s), slices.Clone(full(s))
		check := func(what string) {
			t.Helper()
			if !alike(s, was) || !slices.Equal(full(s), cells) {
				t.Fatalf("%s: %s", what, short(s))
			}
		}
		for i, f := range calls() {
			f(s)
			check(fmt.Sprint("call ", i))
		}
		screen.Right(s)
		screen.Same(s, s)
		screen.Looks(s, s)
		screen.Fill(s)
		check("asked")
	}
}

// R2: an answer isn't what was handed in, and is nobody else's: either is
// written full, and what came ahead and what comes later stays; so does an answer
// when what was handed in is written full.
func TestAnswersAreNew(t *testing.T) {
	for _, s := range someScreens() {
		for i, f := range calls() {
			s := roomy(s)
			was := slices.Clone(full(s))
			ahead := f(s)
			want := own(ahead)
			fill(full(f(s)))
			if !slices.Equal(full(s), was) || !alike(ahead, want) || !alike(f(s), want) {
				t.Fatalf("call %d: %s", i, short(s))
			}
			fill(full(s))
			if !alike(ahead, want) {
				t.Fatalf("call %d: kept: %s", i, short(s))
			}
		}
	}
}

// R1: screens that aren't as great as they say, of which nothing is promised but
// that all ends.
func TestSizesThatAreNone(t *testing.T) {
	for _, rows := range edges(42) {
		for _, cols := range edges(62) {
			for _, n := range []int{0, 1, 5, 15} {
				s := some()
				s.Grid.Rows, s.Grid.Cols, s.Grid.Cells = rows, cols, s.Grid.Cells[:n]
				checkRight(t, len(wrongs(s)) == 0, s)
				checkSame(t, s, some(), rows == 3 && cols == 5 && n == 15, rows == 3 && cols == 5 && n == 15, short(s))
				screen.Copy(s)
				screen.Fill(s)
				for _, to := range []int{math.MinInt, 0, 2, 3, math.MaxInt} {
					got := screen.Sized(s, to, 3)
					if !grid.Right(got.Grid) || got.Grid.Rows != max(1, min(40, to)) || got.Grid.Cols != 3 {
						t.Fatal(short(s), short(got))
					}
				}
			}
		}
	}
}

// R1: any numbers at all, in all places; a cursor that was nowhere is somewhere
// when the size was changed.
func TestAnyNumbers(t *testing.T) {
	r := rand.New(rand.NewSource(1))
	for range 8000 {
		a, b := anyScreen(r), anyScreen(r)
		a.Row, a.Col, a.Saved.Row, a.Saved.Col = pick(r, edges(5)...), pick(r, edges(9)...), pick(r, edges(5)...), pick(r, edges(9)...)
		screen.Right(a)
		screen.Same(a, b)
		screen.Looks(a, b)
		screen.Copy(a)
		screen.Fill(a)
		s := screen.Sized(a, pick(r, edges(42)...), pick(r, edges(62)...))
		if _, ok := grid.At(s.Grid, s.Row, s.Col); !ok {
			t.Fatal(short(a), short(s))
		}
		if _, ok := grid.At(s.Grid, s.Saved.Row, s.Saved.Col); !ok {
			t.Fatal(short(a), short(s))
		}
	}
}

// The chapter's runs.
func TestRuns(t *testing.T) {
	s := screen.New(2, 3)
	if n := len(s.Grid.Cells); n != 6 || grid.Text(s.Grid, 0)+grid.Text(s.Grid, 1) != "      " || s.Bottom != 1 {
		t.Error(short(s))
	}
	s.Row, s.Col = 1, 2
	if got := screen.Sized(s, 1, 2); got.Row != 0 || got.Col != 1 || got.Grid.Rows != 1 || got.Grid.Cols != 2 {
		t.Error(short(got))
	}
}
