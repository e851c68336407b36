package screen_test

import (
	"fmt"
	"math"
	"math/rand"
	"reflect"
	"slices"

	"linguist/api"
	"linguist/cell"
	"linguist/grid"
)

// A second, plain reading of the chapter: a screen is put together number by
// number, all that is wrong with one is told by name, and two are held against
// each other number by number, whatever numbers there are.

func penOf(fore, back, flags int) api.Pen { return api.Pen{Fore: fore, Back: back, Flags: flags} }

func single(x rune, p api.Pen) api.Cell { return api.Cell{Rune: x, Kind: api.Single, Pen: p} }
func left(x rune, p api.Pen) api.Cell   { return api.Cell{Rune: x, Kind: api.Left, Pen: p} }
func right(p api.Pen) api.Cell          { return api.Cell{Kind: api.Right, Pen: p} }

var (
	plain = penOf(-1, -1, 0)
	red   = penOf(1, -1, api.Bold)
	green = penOf(-1, 2, api.Under)
	odd   = penOf(-7, 300, 4000) // not right
)

// stopsBy are P9.1's stops of so many columns.
func stopsBy(cols int) uint64 {
	var t uint64
	for col := 8; col < cols && col < 64; col += 8 {
		t += 1 << col
	}
	return t
}

// cutBy are so many rows and columns, as many as there may be.
func cutBy(rows, cols int) (int, int) {
	return max(1, min(40, rows)), max(1, min(60, cols))
}

// newBy is P11.1's New.
func newBy(rows, cols int) api.Screen {
	rows, cols = cutBy(rows, cols)
	var s api.Screen
	s.Grid.Rows, s.Grid.Cols = rows, cols
	for range rows * cols {
		s.Grid.Cells = append(s.Grid.Cells, single(32, plain))
	}
	s.Bottom = rows - 1
	s.Pen, s.Saved.Pen = plain, plain
	s.Tabs = stopsBy(cols)
	s.Sets[0], s.Sets[1], s.Saved.Sets[0], s.Saved.Sets[1] = 66, 66, 66, 66
	s.Wrap, s.Shown = true, true
	return s
}

// wrongs are all things that P11.2 asks of a screen and that this one hasn't.
func wrongs(s api.Screen) []string {
	var told []string
	ask := func(what string, ok bool) {
		if !ok {
			told = append(told, what)
		}
	}
	rows, cols := s.Grid.Rows, s.Grid.Cols
	ask("grid", grid.Right(s.Grid))
	ask("Row", 0 <= s.Row && s.Row <= rows-1)
	ask("Col", 0 <= s.Col && s.Col <= cols-1)
	ask("Top", s.Top >= 0)
	ask("Top and Bottom", s.Top < s.Bottom || rows == 1 && s.Top == 0 && s.Bottom == 0)
	ask("Bottom", 0 <= s.Bottom && s.Bottom <= rows-1)
	ask("Pen", cell.Right(s.Pen))
	ask("Sets", slices.Contains([]byte("B0"), s.Sets[0]) && slices.Contains([]byte("B0"), s.Sets[1]))
	ask("Shift", slices.Contains([]int{0, 1}, s.Shift))
	if s.Pending {
		ask("Pending without Wrap", s.Wrap)
		ask("Pending ahead of the last column", s.Col+1 == cols)
	}
	ask("Saved.Row", 0 <= s.Saved.Row && s.Saved.Row <= rows-1)
	ask("Saved.Col", 0 <= s.Saved.Col && s.Saved.Col <= cols-1)
	ask("Saved.Pen", cell.Right(s.Saved.Pen))
	ask("Saved.Sets", slices.Contains([]byte("B0"), s.Saved.Sets[0]) && slices.Contains([]byte("B0"), s.Saved.Sets[1]))
	ask("Saved.Shift", slices.Contains([]int{0, 1}, s.Saved.Shift))
	return told
}

// nearestBy is the one of 0 to n - 1 that is nearest to x.
func nearestBy(x, n int) int {
	best := 0
	for i := range n {
		if i <= x {
			best = i
		}
	}
	return best
}

// sizedBy is P11.3's Sized.
func sizedBy(s api.Screen, rows, cols int) api.Screen {
	rows, cols = cutBy(rows, cols)
	s.Grid = grid.Resize(s.Grid, rows, cols)
	s.Row, s.Saved.Row = nearestBy(s.Row, rows), nearestBy(s.Saved.Row, rows)
	s.Col, s.Saved.Col = nearestBy(s.Col, cols), nearestBy(s.Saved.Col, cols)
	s.Top, s.Bottom, s.Tabs, s.Pending = 0, rows-1, stopsBy(cols), false
	return s
}

// leaf is a number, a byte or a bool that a screen holds, with its name.
type leaf struct {
	name string
	at   reflect.Value
}

// leaves are all that s holds, each cell's too.
func leaves(s *api.Screen) []leaf {
	all := rest(s)
	for i := range s.Grid.Cells {
		all = append(all, cellLeaves(s, i)...)
	}
	return all
}

func cellLeaves(s *api.Screen, i int) []leaf {
	return leavesOf(fmt.Sprintf(".Grid.Cells[%d]", i), reflect.ValueOf(&s.Grid.Cells[i]).Elem())
}

// rest are all that s holds beside its cells.
func rest(s *api.Screen) []leaf { return leavesOf("", reflect.ValueOf(s).Elem()) }

// leavesOf passes over slices: the cells are the one that a screen has.
func leavesOf(name string, v reflect.Value) []leaf {
	var all []leaf
	switch v.Kind() {
	case reflect.Struct:
		for i := range v.NumField() {
			all = append(all, leavesOf(name+"."+v.Type().Field(i).Name, v.Field(i))...)
		}
	case reflect.Array:
		for i := range v.Len() {
			all = append(all, leavesOf(fmt.Sprintf("%s[%d]", name, i), v.Index(i))...)
		}
	case reflect.Slice:
	default:
		all = append(all, leaf{name, v})
	}
	return all
}

// setOther puts another value in place of one of these.
func setOther(r *rand.Rand, of []leaf) {
	x := pick(r, of...)
	x.at.Set(pick(r, x.others()...))
}

// setSome puts another value in place of something that s holds.
func setSome(r *rand.Rand, s *api.Screen) {
	if n := len(s.Grid.Cells); n > 0 && flip(r) {
		setOther(r, cellLeaves(s, r.Intn(n)))
		return
	}
	setOther(r, rest(s))
}

// others are values that x's isn't, of its own kind: near ones, and such that
// are alike if bits fall off.
func (x leaf) others() []reflect.Value {
	var all []reflect.Value
	v := x.at
	switch {
	case v.Kind() == reflect.Bool:
		return []reflect.Value{reflect.ValueOf(!v.Bool())}
	case v.CanInt():
		for _, bit := range []int{0, 1, 7, 8, 16, v.Type().Bits() - 1} {
			all = append(all, reflect.ValueOf(v.Int()^1<<bit))
		}
		if v.Type().Bits() == 64 {
			all = append(all, reflect.ValueOf(v.Int()^1<<32))
		}
	default:
		for bit := range v.Type().Bits() {
			all = append(all, reflect.ValueOf(v.Uint()^1<<bit))
		}
	}
	for i := range all {
		all[i] = all[i].Convert(v.Type())
	}
	return all
}

// alike holds two screens against each other thing by thing.
func alike(a, b api.Screen) bool {
	same := func(x, y leaf) bool { return x.name == y.name && x.at.Equal(y.at) }
	return slices.Equal(a.Grid.Cells, b.Grid.Cells) && slices.EqualFunc(rest(&a), rest(&b), same)
}

// own is s with cells of its own.
func own(s api.Screen) api.Screen {
	cells := make([]api.Cell, len(s.Grid.Cells))
	copy(cells, s.Grid.Cells)
	s.Grid.Cells = cells
	return s
}

// some is a right screen of which nothing is as New makes it: three rows of five
// columns, "a<>b ", " c[]d", "<>[]e" in three pens.
func some() api.Screen {
	return api.Screen{
		Grid: api.Grid{Rows: 3, Cols: 5, Cells: []api.Cell{
			single('a', red), left(0x4E00, green), right(green), single('b', plain), single(32, red),
			single(32, green), single('c', red), left(0xAC00, red), right(red), single('d', green),
			left(0x4E01, red), right(red), left(0xAC01, green), right(green), single('e', red),
		}},
		Row: 1, Col: 4, Pending: true, Top: 1, Bottom: 2, Pen: penOf(3, 1<<24+5, api.Italic),
		Tabs: 1<<2 | 1<<63, Sets: [2]byte{'0', 'B'}, Shift: 1,
		Wrap: true, Origin: true, Shown: false, Keys: true, Pad: true,
		Saved: api.Saved{Row: 2, Col: 3, Pen: penOf(-1, 255, 255), Sets: [2]byte{'B', '0'}, Shift: 1, Origin: true},
	}
}

// changed is s with one change.
func changed(s api.Screen, change func(s *api.Screen)) api.Screen {
	s = own(s)
	change(&s)
	return s
}

// edges are numbers about those of a screen, and those that are far off, also
// such that would be near if bits fell off.
func edges(near int) []int {
	ns := []int{math.MinInt, math.MinInt + 1, math.MinInt32, -1 << 32, -256, -100, 256, 1 << 31, 1 << 32, 1<<32 + 1, 1 << 62, math.MaxInt - 1, math.MaxInt}
	for n := -2; n <= near+2; n++ {
		ns = append(ns, n)
	}
	return ns
}

func pick[T any](r *rand.Rand, of ...T) T { return of[r.Intn(len(of))] }

func flip(r *rand.Rand) bool { return r.Intn(2) == 0 }

func rightPen(r *rand.Rand) api.Pen {
	color := func() int { return pick(r, -1, 0, 7, 8, 255, 1<<24, 1<<25-1, r.Intn(256)) }
	return penOf(color(), color(), r.Intn(256))
}

func anyPen(r *rand.Rand) api.Pen {
	part := func() int { return pick(r, -1, 0, 1, 255, 256, -2, 1<<24, 1<<25, r.Int(), -r.Int()) }
	return pick(r, plain, red, green, odd, penOf(part(), part(), part()))
}

func anyCell(r *rand.Rand) api.Cell {
	x := pick(r, 'a', ' ', 0x2500, 0x4E00, 0xAC00, 0x301, 0, 27, -1, rune(r.Uint32()))
	return api.Cell{Rune: x, Kind: pick(r, 0, 0, 1, 2, 3, -1, r.Int()), Pen: anyPen(r)}
}

// rightGrid is one of that size, with narrow and wide runes.
func rightGrid(r *rand.Rand, rows, cols int) api.Grid {
	g := grid.New(rows, cols, plain)
	for range rows * cols {
		x := pick[rune](r, 'a', 'z', 32, 0x2500, 0x4E00, 0xAC00, 0x1F300)
		g = grid.Put(g, r.Intn(rows), r.Intn(cols), x, pick(r, plain, red, green))
	}
	return g
}

func rightSaved(r *rand.Rand, g api.Grid) api.Saved {
	sets := [2]byte{pick[byte](r, 'B', '0'), pick[byte](r, 'B', '0')}
	return api.Saved{Row: r.Intn(g.Rows), Col: r.Intn(g.Cols), Pen: rightPen(r), Sets: sets, Shift: r.Intn(2), Origin: flip(r)}
}

// rightScreen is a right one of a size that isn't great.
func rightScreen(r *rand.Rand) api.Screen {
	g := rightGrid(r, pick(r, 1, 2, 3, 7), pick(r, 1, 2, 3, 9, 17))
	at := rightSaved(r, g)
	s := api.Screen{
		Grid: g, Row: at.Row, Col: at.Col, Pen: at.Pen, Tabs: r.Uint64(), Sets: at.Sets, Shift: at.Shift,
		Wrap: flip(r), Origin: flip(r), Shown: flip(r), Keys: flip(r), Pad: flip(r), Saved: rightSaved(r, g),
	}
	if g.Rows > 1 {
		s.Top = r.Intn(g.Rows - 1)
		s.Bottom = s.Top + 1 + r.Intn(g.Rows-1-s.Top)
	}
	if flip(r) {
		s.Col = g.Cols - 1
		s.Pending = s.Wrap
	}
	return s
}

// anyScreen is one of any numbers at all, but of many that are near, and mostly
// with as many cells as it says.
func anyScreen(r *rand.Rand) api.Screen {
	s := rightScreen(r)
	for range r.Intn(5) {
		setSome(r, &s)
	}
	if r.Intn(4) == 0 {
		s.Row, s.Col, s.Top, s.Bottom = pick(r, edges(4)...), pick(r, edges(4)...), pick(r, edges(4)...), pick(r, edges(4)...)
	}
	if r.Intn(8) == 0 {
		s.Grid.Rows, s.Grid.Cols = pick(r, edges(42)...), pick(r, edges(62)...)
	}
	if r.Intn(8) == 0 {
		s.Grid.Cells = nil
		for range r.Intn(30) {
			s.Grid.Cells = append(s.Grid.Cells, anyCell(r))
		}
	}
	return s
}
