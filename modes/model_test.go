package modes_test

import (
	"fmt"
	"math"
	"math/rand"
	"reflect"
	"slices"

	"linguist/api"
	"linguist/grid"
	"linguist/screen"
)

// A second, plain reading of the chapter: a screen's modes are a row of four bits,
// taken out of it and put back.

// numbers are the chapter's, in its order.
func numbers() []int { return []int{1, 6, 7, 25} }

// modesOf are the modes of s, in the order of numbers.
func modesOf(s api.Screen) [4]bool { return [4]bool{s.Keys, s.Origin, s.Wrap, s.Shown} }

// withModes is s with these modes, and all else as it was.
func withModes(s api.Screen, on [4]bool) api.Screen {
	s.Keys, s.Origin, s.Wrap, s.Shown = on[0], on[1], on[2], on[3]
	return s
}

// setBy is P13.1's Set.
func setBy(s api.Screen, n int, on bool) api.Screen {
	i := slices.Index(numbers(), n)
	if i < 0 {
		return s
	}
	all := modesOf(s)
	all[i] = on
	s = withModes(s, all)
	if n == 6 {
		s.Row, s.Col, s.Pending = 0, 0, false
	}
	if n == 6 && on {
		s.Row = s.Top
	}
	if n == 7 && !on {
		s.Pending = false
	}
	return s
}

// reportBy is P13.2's Report.
func reportBy(s api.Screen, n int) int {
	i := slices.Index(numbers(), n)
	if i < 0 {
		return 0
	}
	if modesOf(s)[i] {
		return 1
	}
	return 2
}

func penOf(fore, back, flags int) api.Pen { return api.Pen{Fore: fore, Back: back, Flags: flags} }

func single(x rune, p api.Pen) api.Cell { return api.Cell{Rune: x, Kind: api.Single, Pen: p} }

var (
	plain = penOf(-1, -1, 0)
	red   = penOf(1, -1, api.Bold)
	odd   = penOf(-7, 300, 4000) // not right
)

// some is a right screen of five rows of four columns, with one row above the
// margins and one below, its cursor within them, something pending and no Origin;
// no two things in it that could be taken for each other are alike.
func some() api.Screen {
	wide := []api.Cell{{Rune: 0x4E00, Kind: api.Left, Pen: red}, {Kind: api.Right, Pen: red}}
	var cells []api.Cell
	for _, x := range "abcde" {
		cells = append(cells, single(x, red), wide[0], wide[1], single(x+9, plain))
	}
	return api.Screen{
		Grid: api.Grid{Rows: 5, Cols: 4, Cells: cells},
		Row:  2, Col: 3, Pending: true, Top: 1, Bottom: 3, Pen: penOf(3, 4, api.Italic),
		Tabs: 1<<2 | 1<<63, Sets: [2]byte{'0', 'B'}, Shift: 1, Wrap: true, Pad: true,
		Saved: api.Saved{Row: 4, Col: 2, Pen: penOf(-1, 255, 255), Sets: [2]byte{'B', '0'}, Origin: true},
	}
}

// own is s with cells of its own.
func own(s api.Screen) api.Screen {
	cells := make([]api.Cell, len(s.Grid.Cells))
	copy(cells, s.Grid.Cells)
	s.Grid.Cells = cells
	return s
}

// alike holds all that two screens hold against each other.
func alike(a, b api.Screen) bool {
	cells := slices.Equal(a.Grid.Cells, b.Grid.Cells)
	a.Grid.Cells, b.Grid.Cells = nil, nil
	return cells && reflect.DeepEqual(a, b)
}

// short tells a screen without all of many cells.
func short(s api.Screen) string {
	s.Grid.Cells = s.Grid.Cells[:min(len(s.Grid.Cells), 32)]
	return fmt.Sprintf("%+v", s)
}

func pick[T any](r *rand.Rand, of ...T) T { return of[r.Intn(len(of))] }

func flip(r *rand.Rand) bool { return r.Intn(2) == 0 }

func rightPen(r *rand.Rand) api.Pen {
	color := func() int { return pick(r, -1, 0, 255, 1<<24, 1<<25-1, r.Intn(256)) }
	return penOf(color(), color(), r.Intn(256))
}

func rightGrid(r *rand.Rand, rows, cols int) api.Grid {
	g := grid.New(rows, cols, plain)
	for range rows * cols {
		g = grid.Put(g, r.Intn(rows), r.Intn(cols), pick[rune](r, 'a', 32, 0x2500, 0x4E00), rightPen(r))
	}
	return g
}

func rightSaved(r *rand.Rand, rows, cols int) api.Saved {
	sets := [2]byte{pick[byte](r, 'B', '0'), pick[byte](r, 'B', '0')}
	return api.Saved{Row: r.Intn(rows), Col: r.Intn(cols), Pen: rightPen(r), Sets: sets, Shift: r.Intn(2), Origin: flip(r)}
}

// rightScreen is a right one of that size.
func rightScreen(r *rand.Rand, rows, cols int) api.Screen {
	at := rightSaved(r, rows, cols)
	s := api.Screen{
		Grid: rightGrid(r, rows, cols), Row: at.Row, Col: at.Col, Pen: at.Pen, Tabs: r.Uint64(), Sets: at.Sets, Shift: at.Shift,
		Wrap: flip(r), Origin: flip(r), Shown: flip(r), Keys: flip(r), Pad: flip(r), Saved: rightSaved(r, rows, cols),
	}
	if rows > 1 {
		s.Top = r.Intn(rows - 1)
		s.Bottom = s.Top + 1 + r.Intn(rows-1-s.Top)
	}
	return awaiting(s, flip(r))
}

// awaiting is s with the cursor in the last column, and something pending there,
// where that may be.
func awaiting(s api.Screen, so bool) api.Screen {
	if so {
		s.Col = s.Grid.Cols - 1
		s.Pending = s.Wrap
	}
	return s
}

// beyond are numbers that are no modes' and no places, and near ones, also such
// that would be modes' if bits fell off, or if they were texts.
func beyond() []int {
	return []int{
		math.MinInt, math.MinInt + 1, -1 << 32, math.MinInt32, -65536, -256, -26, -25, -24, -8, -7, -6, -5, -2, -1,
		0, 2, 3, 4, 5, 8, 9, 10, 12, 16, 17, 23, 24, 26, 27, 47, 49, 54, 55, 67, 70, 71, 125, 167, 250, 256, 257, 262, 263, 281,
		1000, 1049, 2004, 65535, 65536, 65537, 65542, 65543, 65561, math.MaxInt32, 1 << 32, 1<<32 + 1, 1<<32 + 6, 1<<32 + 7, 1<<32 + 25,
		math.MaxInt - 1, math.MaxInt,
	}
}

// anyScreen is one of any numbers at all, but of many that are near, and mostly
// with as many cells as it says.
func anyScreen(r *rand.Rand) api.Screen {
	s := screen.Copy(rightScreen(r, pick(r, 1, 2, 3, 7), pick(r, 1, 2, 9)))
	places := []*int{
		&s.Row, &s.Col, &s.Top, &s.Bottom, &s.Top, &s.Bottom, &s.Saved.Row, &s.Saved.Col,
		&s.Pen.Fore, &s.Pen.Back, &s.Pen.Flags, &s.Shift, &s.Saved.Shift, &s.Grid.Rows, &s.Grid.Cols,
	}
	for range r.Intn(5) {
		*pick(r, places...) = pick(r, beyond()...)
	}
	if r.Intn(4) == 0 {
		s.Sets, s.Saved.Sets, s.Pending = [2]byte{byte(r.Intn(256)), 0}, [2]byte{0, byte(r.Intn(256))}, true
	}
	switch r.Intn(12) {
	case 0:
		s.Grid.Cells = nil
	case 1:
		s.Grid.Cells = s.Grid.Cells[:r.Intn(len(s.Grid.Cells))]
	case 2:
		s.Grid.Cells = append(s.Grid.Cells, single(-1, odd))
	case 3:
		s.Grid.Cells[r.Intn(len(s.Grid.Cells))] = api.Cell{Rune: rune(r.Uint32()), Kind: pick(r, 1, 2, 3, -1), Pen: odd}
	}
	return s
}
