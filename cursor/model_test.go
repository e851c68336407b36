package cursor_test

import (
	"fmt"
	"math"
	"math/rand"
	"reflect"
	"slices"

	"linguist/api"
	"linguist/cursor"
	"linguist/grid"
	"linguist/screen"
)

// A second, plain reading of the chapter: the nearest place is searched for among
// all, the cursor goes up and down step by step, and a row that goes is taken out
// of a list of rows, with a blank one put in elsewhere.

func penOf(fore, back, flags int) api.Pen { return api.Pen{Fore: fore, Back: back, Flags: flags} }

func single(x rune, p api.Pen) api.Cell { return api.Cell{Rune: x, Kind: api.Single, Pen: p} }

var (
	plain = penOf(-1, -1, 0)
	red   = penOf(1, -1, api.Bold)
	green = penOf(-1, 2, api.Under)
	odd   = penOf(-7, 300, 4000) // not right
)

// rowBy is a row for the tests by hand: < and > are the halves of a wide rune in
// red, [ and ] of one in green; all else is in red.
func rowBy(row string) []api.Cell {
	signs := map[rune]api.Cell{
		'<': {Rune: 0x4E00, Kind: api.Left, Pen: red}, '>': {Kind: api.Right, Pen: red},
		'[': {Rune: 0xAC00, Kind: api.Left, Pen: green}, ']': {Kind: api.Right, Pen: green},
	}
	var l []api.Cell
	for _, sign := range row {
		c, ok := signs[sign]
		if !ok {
			c = single(sign, red)
		}
		l = append(l, c)
	}
	return l
}

func cellsBy(rows ...string) []api.Cell {
	var l []api.Cell
	for _, row := range rows {
		l = append(l, rowBy(row)...)
	}
	return l
}

// The rows of some, no two of them alike.
const (
	r0, r1, r2, r3 = "a<>b", "c[]d", "<>ef", "gh[]"
	r4, r5, r6, r7 = "<>[]", "ijkl", "[]mn", "o<>p"
)

// some is a right screen of which nothing is as New makes it: eight rows of four
// columns, of which two are above the margins, two below.
func some() api.Screen {
	return api.Screen{
		Grid: api.Grid{Rows: 8, Cols: 4, Cells: cellsBy(r0, r1, r2, r3, r4, r5, r6, r7)},
		Row:  3, Col: 3, Pending: true, Top: 2, Bottom: 5, Pen: penOf(3, -1, api.Italic),
		Tabs: 1<<2 | 1<<63, Sets: [2]byte{'0', 'B'}, Shift: 1,
		Wrap: true, Origin: true, Shown: false, Keys: true, Pad: true,
		Saved: api.Saved{Row: 6, Col: 2, Pen: penOf(-1, 255, 255), Sets: [2]byte{'B', '0'}, Shift: 0, Origin: false},
	}
}

// own is s with cells of its own.
func own(s api.Screen) api.Screen {
	cells := make([]api.Cell, len(s.Grid.Cells))
	copy(cells, s.Grid.Cells)
	s.Grid.Cells = cells
	return s
}

// changed is s with one change.
func changed(s api.Screen, change func(s *api.Screen)) api.Screen {
	s = own(s)
	change(&s)
	return s
}

// alike holds all that two screens hold against each other.
func alike(a, b api.Screen) bool {
	cells := slices.Equal(a.Grid.Cells, b.Grid.Cells)
	a.Grid.Cells, b.Grid.Cells = nil, nil
	return cells && reflect.DeepEqual(a, b)
}

// short tells a screen without all of many cells.
func short(s api.Screen) string {
	s.Grid.Cells = s.Grid.Cells[:min(len(s.Grid.Cells), 32)]
	return fmt.Sprintf("%+v", s)
}

// nearestBy is the one of 0 to n - 1 that is least far from i.
func nearestBy(i, n int) int {
	best := 0
	for j := range n {
		if max(i-j, j-i) < max(i-best, best-i) {
			best = j
		}
	}
	return best
}

// atBy is P12.1's At, of numbers that aren't too far off to take one from another.
func atBy(s api.Screen, r, c int) api.Screen {
	s.Row, s.Col, s.Pending = nearestBy(r, s.Grid.Rows), nearestBy(c, s.Grid.Cols), false
	return s
}

// scrolledBy is s without row gone, and with a blank row that then is row come.
func scrolledBy(s api.Screen, gone, come int) api.Screen {
	rows := slices.Collect(slices.Chunk(s.Grid.Cells, s.Grid.Cols))
	rows = slices.Delete(rows, gone, gone+1)
	rows = slices.Insert(rows, come, slices.Repeat([]api.Cell{single(32, penOf(-1, s.Pen.Back, 0))}, s.Grid.Cols))
	s.Grid.Cells = slices.Concat(rows...)
	return s
}

// feedBy is P12.2's Feed.
func feedBy(s api.Screen) api.Screen {
	s.Pending = false
	if s.Row == s.Bottom {
		return scrolledBy(s, s.Top, s.Bottom)
	}
	if s.Row+1 < s.Grid.Rows {
		s.Row++
	}
	return s
}

// backBy is P12.2's Back.
func backBy(s api.Screen) api.Screen {
	s.Pending = false
	if s.Row == s.Top {
		return scrolledBy(s, s.Bottom, s.Top)
	}
	if s.Row > 0 {
		s.Row--
	}
	return s
}

// upBy is P12.3's Up: from above Top the steps don't come by it.
func upBy(s api.Screen, n int) api.Screen {
	s.Pending = false
	for range n {
		if s.Row == s.Top || s.Row == 0 {
			break
		}
		s.Row--
	}
	return s
}

// downBy is P12.3's Down: from below Bottom the steps don't come by it.
func downBy(s api.Screen, n int) api.Screen {
	s.Pending = false
	for range n {
		if s.Row == s.Bottom || s.Row == s.Grid.Rows-1 {
			break
		}
		s.Row++
	}
	return s
}

// goBy is P12.4's Go.
func goBy(s api.Screen, r, c int) api.Screen {
	switch {
	case s.Origin && s.Top+r > s.Bottom:
		return atBy(s, s.Bottom, c)
	case s.Origin:
		return atBy(s, s.Top+r, c)
	}
	return atBy(s, r, c)
}

// homeBy is P12.4's Home.
func homeBy(s api.Screen) api.Screen {
	s.Row, s.Col, s.Pending = 0, 0, false
	if s.Origin {
		s.Row = s.Top
	}
	return s
}

// saveBy is P12.5's Save.
func saveBy(s api.Screen) api.Screen {
	s.Saved.Row, s.Saved.Col, s.Saved.Pen = s.Row, s.Col, s.Pen
	s.Saved.Sets[0], s.Saved.Sets[1], s.Saved.Shift, s.Saved.Origin = s.Sets[0], s.Sets[1], s.Shift, s.Origin
	return s
}

// restoreBy is P12.5's Restore.
func restoreBy(s api.Screen) api.Screen {
	s.Row, s.Col, s.Pen, s.Pending = s.Saved.Row, s.Saved.Col, s.Saved.Pen, false
	s.Sets[0], s.Sets[1], s.Shift, s.Origin = s.Saved.Sets[0], s.Saved.Sets[1], s.Saved.Shift, s.Saved.Origin
	return s
}

// call is a call of the package, and the model's.
type call struct {
	name   string
	of, by func(s api.Screen) api.Screen
}

// fixed are the calls that are given a screen alone.
func fixed() []call {
	return []call{
		{"Feed", cursor.Feed, feedBy}, {"Back", cursor.Back, backBy}, {"Home", cursor.Home, homeBy},
		{"Save", cursor.Save, saveBy}, {"Restore", cursor.Restore, restoreBy},
	}
}

// steps are the calls by n rows.
func steps(n int) []call {
	return []call{
		{fmt.Sprint("Up ", n), func(s api.Screen) api.Screen { return cursor.Up(s, n) }, func(s api.Screen) api.Screen { return upBy(s, n) }},
		{fmt.Sprint("Down ", n), func(s api.Screen) api.Screen { return cursor.Down(s, n) }, func(s api.Screen) api.Screen { return downBy(s, n) }},
	}
}

// jumps are the calls to row r, column c.
func jumps(r, c int) []call {
	at := fmt.Sprint(" ", r, " ", c)
	return []call{
		{"At" + at, func(s api.Screen) api.Screen { return cursor.At(s, r, c) }, func(s api.Screen) api.Screen { return atBy(s, r, c) }},
		{"Go" + at, func(s api.Screen) api.Screen { return cursor.Go(s, r, c) }, func(s api.Screen) api.Screen { return goBy(s, r, c) }},
	}
}

// far is the greatest row and column that may be asked for.
const far = 1 << 30

// numbersTo are all rows or columns about those of a screen of n, and those that
// are as far off as may be.
func numbersTo(n int) []int {
	all := []int{-far, -far + 1, -65536, -256, -100, 100, 256, 65536, far - 1, far}
	for i := -3; i <= n+3; i++ {
		all = append(all, i)
	}
	return all
}

// beyond are numbers that nothing is promised of, and near ones, also such that
// would be near if bits fell off.
func beyond() []int {
	return []int{
		math.MinInt, math.MinInt + 1, -1 << 32, math.MinInt32, -far - 1, -far, -65536, -9, -2, -1, 0, 1, 2, 3, 5, 8, 9, 39, 40, 41, 60,
		65535, 65536, far, far + 1, math.MaxInt32, 1 << 32, 1<<32 + 1, 1 << 62, math.MaxInt - 1, math.MaxInt,
	}
}

func pick[T any](r *rand.Rand, of ...T) T { return of[r.Intn(len(of))] }

func flip(r *rand.Rand) bool { return r.Intn(2) == 0 }

func rightPen(r *rand.Rand) api.Pen {
	color := func() int { return pick(r, -1, 0, 7, 8, 255, 1<<24, 1<<25-1, r.Intn(256)) }
	return penOf(color(), color(), r.Intn(256))
}

// rightGrid is one of that size, with narrow and wide runes.
func rightGrid(r *rand.Rand, rows, cols int) api.Grid {
	g := grid.New(rows, cols, plain)
	for i := range rows * cols {
		x := pick[rune](r, 'a', 'z', 32, 0x2500, 0x4E00, 0xAC00, 0x1F300, rune(0x4E00+i))
		g = grid.Put(g, r.Intn(rows), r.Intn(cols), x, pick(r, plain, red, green))
	}
	return g
}

func rightSaved(r *rand.Rand, g api.Grid) api.Saved {
	sets := [2]byte{pick[byte](r, 'B', '0'), pick[byte](r, 'B', '0')}
	return api.Saved{Row: r.Intn(g.Rows), Col: r.Intn(g.Cols), Pen: rightPen(r), Sets: sets, Shift: r.Intn(2), Origin: flip(r)}
}

// rightScreen is a right one of that size.
func rightScreen(r *rand.Rand, rows, cols int) api.Screen {
	g := rightGrid(r, rows, cols)
	at := rightSaved(r, g)
	s := api.Screen{
		Grid: g, Row: at.Row, Col: at.Col, Pen: at.Pen, Tabs: r.Uint64(), Sets: at.Sets, Shift: at.Shift,
		Wrap: flip(r), Origin: flip(r), Shown: flip(r), Keys: flip(r), Pad: flip(r), Saved: rightSaved(r, g),
	}
	if rows > 1 {
		s.Top = r.Intn(rows - 1)
		s.Bottom = s.Top + 1 + r.Intn(rows-1-s.Top)
	}
	if flip(r) {
		s.Col = cols - 1
		s.Pending = s.Wrap
	}
	return s
}

// marginsOf are all margins that a right screen of so many rows may have.
func marginsOf(rows int) [][2]int {
	if rows == 1 {
		return [][2]int{{0, 0}}
	}
	var all [][2]int
	for top := range rows {
		for bottom := top + 1; bottom < rows; bottom++ {
			all = append(all, [2]int{top, bottom})
		}
	}
	return all
}

// smallScreens are right ones of one to five rows, with all margins, and the
// cursor at each place, with something pending, too, where that may be.
func smallScreens(r *rand.Rand) []api.Screen {
	var all []api.Screen
	for rows := 1; rows <= 5; rows++ {
		for cols := 1; cols <= 3; cols++ {
			for _, m := range marginsOf(rows) {
				for i := range rows * cols * 2 {
					s := rightScreen(r, rows, cols)
					s.Top, s.Bottom, s.Row, s.Col = m[0], m[1], i/2/cols, i/2%cols
					s.Pending = i%2 == 1 && s.Col == cols-1
					s.Wrap = s.Wrap || s.Pending
					all = append(all, s)
				}
			}
		}
	}
	return all
}

// anyScreen is one of any numbers at all, but of many that are near, and mostly
// with as many cells as it says.
func anyScreen(r *rand.Rand) api.Screen {
	s := screen.Copy(rightScreen(r, pick(r, 1, 2, 3, 7), pick(r, 1, 2, 9)))
	numbers := []*int{
		&s.Row, &s.Col, &s.Top, &s.Bottom, &s.Row, &s.Top, &s.Bottom, &s.Saved.Row, &s.Saved.Col,
		&s.Pen.Fore, &s.Pen.Back, &s.Pen.Flags, &s.Shift, &s.Saved.Shift, &s.Saved.Pen.Back, &s.Grid.Rows, &s.Grid.Cols,
	}
	for range r.Intn(5) {
		*pick(r, numbers...) = pick(r, beyond()...)
	}
	if r.Intn(4) == 0 {
		s.Sets, s.Saved.Sets = [2]byte{byte(r.Intn(256)), 0}, [2]byte{0, byte(r.Intn(256))}
		s.Pending = true
	}
	switch r.Intn(12) {
	case 0:
		s.Grid.Cells = nil
	case 1:
		s.Grid.Cells = s.Grid.Cells[:r.Intn(len(s.Grid.Cells))]
	case 2:
		s.Grid.Cells = append(s.Grid.Cells, single(-1, odd))
	case 3:
		s.Grid.Cells[r.Intn(len(s.Grid.Cells))] = api.Cell{Rune: rune(r.Uint32()), Kind: pick(r, 1, 2, 3, -1), Pen: odd}
	}
	if flip(r) {
		s.Row = pick(r, s.Top, s.Bottom)
	}
	return s
}
