package source_test

import (
	"fmt"
	"math"
	"math/rand"
	"reflect"
	"slices"

	"linguist/api"
	"linguist/cell"
	"linguist/grid"
	"linguist/pen"
	"linguist/screen"
)

// A second, plain reading of the chapter: all goes by single cells, single rows and
// single steps, each of them done so often as is asked; what an event does stands
// in a map by its last byte.

func penOf(fore, back, flags int) api.Pen { return api.Pen{Fore: fore, Back: back, Flags: flags} }

func single(x rune, p api.Pen) api.Cell { return api.Cell{Rune: x, Kind: api.Single, Pen: p} }

// The pens of some: its own one, that in which it is erased, and two of its cells.
var (
	plain = penOf(-1, -1, 0)
	red   = penOf(1, -1, api.Bold)
	green = penOf(-1, 2, api.Under)
	own3  = penOf(3, 4, api.Italic|api.Blink)
	fill4 = penOf(-1, 4, 0)
	odd   = penOf(-7, 300, 4000) // not right
)

// The wide runes of some, and one that is put into it.
const (
	wideRed, wideGreen, wideOwn = 0x4E00, 0xAC00, 0x1F300
)

// rowBy is a row for the tests by hand: < and > are the halves of a wide rune in
// red, [ and ] of one in green, ( and ) of one in the pen of some; ~ is a blank of
// what is erased, a point one in green, a blank one in red; small letters are in
// red, others in the pen of some.
func rowBy(row string) []api.Cell {
	signs := map[rune]api.Cell{
		'<': {Rune: wideRed, Kind: api.Left, Pen: red}, '>': {Kind: api.Right, Pen: red},
		'[': {Rune: wideGreen, Kind: api.Left, Pen: green}, ']': {Kind: api.Right, Pen: green},
		'(': {Rune: wideOwn, Kind: api.Left, Pen: own3}, ')': {Kind: api.Right, Pen: own3},
		'~': single(32, fill4), '.': single(32, green), ' ': single(32, red),
	}
	var l []api.Cell
	for _, sign := range row {
		c, ok := signs[sign]
		switch {
		case !ok && sign >= 'a' && sign <= 'z':
			c = single(sign, red)
		case !ok:
			c = single(sign, own3)
		}
		l = append(l, c)
	}
	return l
}

// The rows of some, no two of them alike.
const (
	r0, r1, r2 = "a<>bc", "<>[]d", "e<>[]"
	r3, r4, r5 = "fgh<>", "[]ijk", "l[]mn"
)

// some is a right screen of which nothing is as New makes it: six rows of five
// columns, one of them above the margins, one below.
func some() api.Screen {
	var cells []api.Cell
	for _, row := range []string{r0, r1, r2, r3, r4, r5} {
		cells = append(cells, rowBy(row)...)
	}
	return api.Screen{
		Grid: api.Grid{Rows: 6, Cols: 5, Cells: cells},
		Row:  2, Col: 4, Pending: true, Top: 1, Bottom: 4, Pen: own3,
		Tabs: 1<<2 | 1<<7 | 1<<63, Sets: [2]byte{'0', 'B'}, Shift: 1,
		Wrap: true, Origin: true, Shown: false, Keys: true, Pad: true,
		Saved: api.Saved{Row: 5, Col: 1, Pen: penOf(-1, 255, 255), Sets: [2]byte{'B', '0'}, Shift: 0, Origin: false},
	}
}

// own is s with cells of its own.
func own(s api.Screen) api.Screen {
	cells := make([]api.Cell, len(s.Grid.Cells))
	copy(cells, s.Grid.Cells)
	s.Grid.Cells = cells
	return s
}

// alike holds all that two screens hold against each other.
func alike(a, b api.Screen) bool {
	cells := slices.Equal(a.Grid.Cells, b.Grid.Cells)
	a.Grid.Cells, b.Grid.Cells = nil, nil
	return cells && reflect.DeepEqual(a, b)
}

// short tells a screen: its rows, and all else.
func short(s api.Screen) string {
	rows := ""
	for r := range min(s.Grid.Rows, api.MaxRows) {
		rows += fmt.Sprintf("%q ", grid.Text(s.Grid, r))
	}
	s.Grid.Cells = s.Grid.Cells[:min(len(s.Grid.Cells), 30)]
	return rows + fmt.Sprintf("%+v", s)
}

// blankAt puts a blank at a place of a row, and one for the lost half of a wide
// rune.
func blankAt(l []api.Cell, c int, p api.Pen) {
	switch l[c].Kind {
	case api.Left:
		l[c+1] = single(32, l[c].Pen)
	case api.Right:
		l[c-1] = single(32, l[c].Pen)
	}
	l[c] = single(32, p)
}

// model is a screen's cells as rows, and the screen that they are of.
type model struct {
	api.Screen
	rows [][]api.Cell
}

func modelOf(s api.Screen) *model {
	m := &model{Screen: own(s)}
	for l := range slices.Chunk(m.Grid.Cells, s.Grid.Cols) {
		m.rows = append(m.rows, slices.Clip(l))
	}
	return m
}

func (m *model) screen() api.Screen {
	m.Grid.Cells = slices.Concat(m.rows...)
	return m.Screen
}

func (m *model) erased() api.Pen { return penOf(-1, m.Pen.Back, 0) }

func (m *model) blankRow() []api.Cell {
	return slices.Repeat([]api.Cell{single(32, m.erased())}, m.Grid.Cols)
}

// turn takes row gone out, and puts a blank one in that then is row come.
func (m *model) turn(gone, come int) {
	m.rows = slices.Delete(m.rows, gone, gone+1)
	m.rows = slices.Insert(m.rows, come, m.blankRow())
}

// to puts the cursor at the nearest place.
func (m *model) to(r, c int) {
	m.Row, m.Col, m.Pending = min(max(r, 0), m.Grid.Rows-1), min(max(c, 0), m.Grid.Cols-1), false
}

// toTold puts the cursor at the place that the application calls so.
func (m *model) toTold(r, c int) {
	if m.Origin {
		r = min(r+m.Top, m.Bottom)
	}
	m.to(r, c)
}

func (m *model) feed() {
	if m.Row == m.Bottom {
		m.turn(m.Top, m.Bottom)
		m.Pending = false
		return
	}
	m.to(m.Row+1, m.Col)
}

func (m *model) back() {
	if m.Row == m.Top {
		m.turn(m.Bottom, m.Top)
		m.Pending = false
		return
	}
	m.to(m.Row-1, m.Col)
}

// steps goes by so many rows, one by one, and not past a margin or the end.
func (m *model) steps(n, by, margin int) {
	m.Pending = false
	for range n {
		if m.Row == margin || m.Row+by < 0 || m.Row+by == m.Grid.Rows {
			return
		}
		m.Row += by
	}
}

func (m *model) save() {
	m.Saved = api.Saved{Row: m.Row, Col: m.Col, Pen: m.Pen, Sets: m.Sets, Shift: m.Shift, Origin: m.Origin}
}

func (m *model) restore() {
	m.Pen, m.Sets, m.Shift, m.Origin = m.Saved.Pen, m.Saved.Sets, m.Saved.Shift, m.Saved.Origin
	m.to(m.Saved.Row, m.Saved.Col)
}

// lineDrawing are the runes of 5F to 7E.
func lineDrawing() []rune {
	return []rune{
		0x20, 0x25C6, 0x2592, 0x2409, 0x240C, 0x240D, 0x240A, 0xB0, 0xB1, 0x2424, 0x240B, 0x2518, 0x2510, 0x250C, 0x2514, 0x253C, 0x23BA,
		0x23BB, 0x2500, 0x23BC, 0x23BD, 0x251C, 0x2524, 0x2534, 0x252C, 0x2502, 0x2264, 0x2265, 0x3C0, 0x2260, 0xA3, 0xB7,
	}
}

// print is P14.2.
func (m *model) print(x rune) {
	if draw := lineDrawing(); m.Sets[m.Shift] == '0' && x >= 0x5F && int(x)-0x5F < len(draw) {
		x = draw[x-0x5F]
	}
	width := cell.Width(x)
	if width == 0 || width > m.Grid.Cols {
		return
	}
	for m.Col+width > m.Grid.Cols && !m.Wrap {
		m.Col--
	}
	if m.Pending || m.Col+width > m.Grid.Cols {
		m.Col = 0
		m.feed()
	}
	l := m.rows[m.Row]
	for i := range width {
		blankAt(l, m.Col+i, plain)
	}
	l[m.Col] = single(x, m.Pen)
	if width == 2 {
		l[m.Col].Kind = api.Left
		l[m.Col+1] = api.Cell{Kind: api.Right, Pen: m.Pen}
	}
	m.Col += width
	if m.Col == m.Grid.Cols {
		m.Col, m.Pending = m.Col-1, m.Wrap
	}
}

// eraseLine erases of the cursor's row: 0 from its column on, 1 up to it, 2 all.
func (m *model) eraseLine(w int) {
	for c := range m.Grid.Cols {
		if w == 0 && c >= m.Col || w == 1 && c <= m.Col || w == 2 {
			blankAt(m.rows[m.Row], c, m.erased())
		}
	}
}

// erase erases of all rows.
func (m *model) erase(w int) {
	m.eraseLine(w)
	for r := range m.rows {
		if w == 0 && r > m.Row || w == 1 && r < m.Row || w == 2 {
			m.rows[r] = m.blankRow()
		}
	}
}

// part makes blanks of a wide rune whose right half the cursor is at.
func (m *model) part() {
	if l := m.rows[m.Row]; l[m.Col].Kind == api.Right {
		blankAt(l, m.Col, l[m.Col].Pen)
	}
}

// insertCell puts one blank in at the cursor.
func (m *model) insertCell() {
	l := m.rows[m.Row]
	blankAt(l, len(l)-1, l[len(l)-1].Pen)
	m.rows[m.Row] = slices.Insert(l[:len(l)-1:len(l)-1], m.Col, single(32, m.erased()))
}

// deleteCell takes the cell at the cursor out.
func (m *model) deleteCell() {
	l := m.rows[m.Row]
	blankAt(l, m.Col, plain)
	m.rows[m.Row] = append(slices.Delete(l, m.Col, m.Col+1), single(32, m.erased()))
}

// argBy is parameter i of those that are from 1 on.
func argBy(params []int, i, none int) int {
	if i < len(params) && params[i] > 0 {
		return params[i]
	}
	return none
}

// often is n, or as often as makes a difference.
func often(n int) int { return min(n, api.MaxRows+api.MaxCols) }

// plainCsi is what an ECsi without Priv and Inter does, by its Final: n is its
// first parameter, from 1 on, w from 0 on.
func plainCsi(m *model, params []int) map[byte]func() {
	n, w := argBy(params, 0, 1), argBy(params, 0, 0)
	many := often(n)
	up := func() { m.steps(many, -1, m.Top) }
	down := func() { m.steps(many, 1, m.Bottom) }
	column := func() { m.to(m.Row, n-1) }
	place := func() { m.toTold(n-1, argBy(params, 1, 1)-1) }
	return map[byte]func(){
		'A': up, 'B': down,
		'C': func() { m.to(m.Row, m.Col+n) }, 'D': func() { m.to(m.Row, m.Col-n) },
		'E': func() { down(); m.Col = 0 }, 'F': func() { up(); m.Col = 0 },
		'G': column, 0x60: column, 'H': place, 'f': place,
		'd': func() { m.toTold(n-1, m.Col) },
		'J': func() { m.erase(w); m.Pending = false },
		'K': func() { m.eraseLine(w); m.Pending = false },
		'L': func() { m.lines(many, m.Bottom, m.Row) }, 'M': func() { m.lines(many, m.Row, m.Bottom) },
		'@': func() { m.part(); m.cells(many, m.insertCell) },
		'P': func() { m.part(); m.cells(many, m.deleteCell) },
		'X': func() { m.wipe(n); m.Pending = false },
		'S': func() { m.turns(many, m.Top, m.Bottom) }, 'T': func() { m.turns(many, m.Bottom, m.Top) },
		'm': func() { m.Pen = pen.Apply(m.Pen, params...) },
		'r': func() { m.margins(n-1, min(argBy(params, 1, m.Grid.Rows), m.Grid.Rows)-1) },
		'g': func() { m.drop(w) },
		's': m.save, 'u': m.restore,
	}
}

// turns takes row gone out, and puts a blank one in as row come, so often.
func (m *model) turns(n, gone, come int) {
	for range n {
		m.turn(gone, come)
	}
}

// lines is turns, if the margins hold the cursor.
func (m *model) lines(n, gone, come int) {
	if m.Top <= m.Row && m.Row <= m.Bottom {
		m.turns(n, gone, come)
		m.to(m.Row, 0)
	}
}

// cells does one so often; nothing is pending.
func (m *model) cells(n int, one func()) {
	for range n {
		one()
	}
	m.Pending = false
}

// wipe makes n blanks from the cursor on.
func (m *model) wipe(n int) {
	for c := m.Col; c < m.Grid.Cols && c < m.Col+n; c++ {
		blankAt(m.rows[m.Row], c, m.erased())
	}
}

func (m *model) margins(top, bottom int) {
	if top < bottom {
		m.Top, m.Bottom = top, bottom
		m.toTold(0, 0)
	}
}

// drop takes stops away: 0 the one here, 3 all.
func (m *model) drop(w int) {
	for c := range 64 {
		if w == 3 || w == 0 && c == m.Col {
			m.Tabs &^= 1 << c
		}
	}
}

// mode is P13.1's Set.
func (m *model) mode(n int, on bool) {
	switch n {
	case 1:
		m.Keys = on
	case 6:
		m.Origin = on
		m.toTold(0, 0)
	case 7:
		m.Wrap, m.Pending = on, m.Pending && on
	case 25:
		m.Shown = on
	}
}

// csi is P14.5 to P14.7.
func (m *model) csi(e api.Event) {
	switch {
	case e.Inter != 0:
	case e.Priv == '?' && (e.Final == 'h' || e.Final == 'l'):
		for _, n := range e.Params {
			m.mode(n, e.Final == 'h')
		}
	case e.Priv == 0:
		if does := plainCsi(m, e.Params)[e.Final]; does != nil {
			does()
		}
	}
}

// exec is P14.3.
func (m *model) exec(b byte) {
	switch b {
	case 8:
		m.to(m.Row, m.Col-1)
	case 9:
		c := m.Col + 1
		for c < m.Grid.Cols && m.Tabs>>c&1 == 0 {
			c++
		}
		m.to(m.Row, c)
	case 10, 11, 12:
		m.feed()
	case 13:
		m.to(m.Row, 0)
	case 14, 15:
		m.Shift = 15 - int(b)
	}
}

// esc is P14.4.
func (m *model) esc(e api.Event) {
	g := slices.Index([]byte{'(', ')'}, e.Inter)
	switch {
	case g >= 0 && (e.Final == '0' || e.Final == 'B'):
		m.Sets[g] = e.Final
	case e.Inter == 0 && e.Final == 'c':
		*m = *modelOf(screen.New(m.Grid.Rows, m.Grid.Cols))
	case e.Inter == 0:
		does := map[byte]func(){
			'7': m.save, '8': m.restore, 'D': m.feed, 'M': m.back,
			'E': func() { m.Col = 0; m.feed() },
			'H': func() { m.Tabs |= 1 << m.Col },
			'=': func() { m.Pad = true }, '>': func() { m.Pad = false },
		}[e.Final]
		if does != nil {
			does()
		}
	}
}

// doBy is P14.1's Do.
func doBy(s api.Screen, e api.Event) api.Screen {
	m := modelOf(s)
	switch e.Kind {
	case api.EPrint:
		m.print(e.Rune)
	case api.EExec:
		m.exec(e.Final)
	case api.EEsc:
		m.esc(e)
	case api.ECsi:
		m.csi(e)
	}
	return m.screen()
}

func pick[T any](r *rand.Rand, of ...T) T { return of[r.Intn(len(of))] }

func flip(r *rand.Rand) bool { return r.Intn(2) == 0 }

func rightPen(r *rand.Rand) api.Pen {
	color := func() int { return pick(r, -1, 0, 7, 8, 255, 1<<24, 1<<25-1, r.Intn(256)) }
	return penOf(color(), color(), r.Intn(256))
}

// rightGrid is one of that size, with narrow and wide runes.
func rightGrid(r *rand.Rand, rows, cols int) api.Grid {
	g := grid.New(rows, cols, plain)
	for i := range rows * cols {
		x := pick[rune](r, 'a', 'z', 32, 0x2500, 0x4E00, 0xAC00, 0x1F300, rune(0x4E00+i))
		g = grid.Put(g, r.Intn(rows), r.Intn(cols), x, pick(r, plain, red, green))
	}
	return g
}

func rightSaved(r *rand.Rand, g api.Grid) api.Saved {
	sets := [2]byte{pick[byte](r, 'B', '0'), pick[byte](r, 'B', '0')}
	return api.Saved{Row: r.Intn(g.Rows), Col: r.Intn(g.Cols), Pen: rightPen(r), Sets: sets, Shift: r.Intn(2), Origin: flip(r)}
}

// rightScreen is a right one of that size.
func rightScreen(r *rand.Rand, rows, cols int) api.Screen {
	g := rightGrid(r, rows, cols)
	at := rightSaved(r, g)
	s := api.Screen{
		Grid: g, Row: at.Row, Col: at.Col, Pen: at.Pen, Tabs: r.Uint64() & r.Uint64(), Sets: at.Sets, Shift: at.Shift,
		Wrap: flip(r), Origin: flip(r), Shown: flip(r), Keys: flip(r), Pad: flip(r), Saved: rightSaved(r, g),
	}
	if rows > 1 {
		s.Top = r.Intn(rows - 1)
		s.Bottom = s.Top + 1 + r.Intn(rows-1-s.Top)
	}
	if flip(r) {
		s.Col = cols - 1
		s.Pending = s.Wrap
	}
	return s
}

// marginsOf are all margins that a right screen of so many rows may have.
func marginsOf(rows int) [][2]int {
	if rows == 1 {
		return [][2]int{{0, 0}}
	}
	var all [][2]int
	for top := range rows {
		for bottom := top + 1; bottom < rows; bottom++ {
			all = append(all, [2]int{top, bottom})
		}
	}
	return all
}

// smallScreens are right ones of one to four rows, with all margins, and the
// cursor at each place, with something pending, too, where that may be.
func smallScreens(r *rand.Rand) []api.Screen {
	var all []api.Screen
	for rows := 1; rows <= 4; rows++ {
		for cols := 1; cols <= 4; cols++ {
			for _, m := range marginsOf(rows) {
				for i := range rows * cols * 2 {
					s := rightScreen(r, rows, cols)
					s.Top, s.Bottom, s.Row, s.Col = m[0], m[1], i/2/cols, i/2%cols
					s.Pending = i%2 == 1 && s.Col == cols-1
					s.Wrap = s.Wrap || s.Pending
					all = append(all, s)
				}
			}
		}
	}
	return all
}

// beyond are numbers that nothing is promised of, and near ones, also such that
// would be near if bits fell off.
func beyond() []int {
	return []int{
		math.MinInt, math.MinInt + 1, -1 << 32, math.MinInt32, -65536, -9, -2, -1, 0, 1, 2, 3, 5, 6, 7, 8, 9, 38, 39, 40, 41, 48, 60,
		65535, 65536, math.MaxInt32, 1 << 32, 1<<32 + 1, 1 << 62, math.MaxInt - 1, math.MaxInt,
	}
}

// anyScreen is one of any numbers at all, but of many that are near, and mostly
// with as many cells as it says.
func anyScreen(r *rand.Rand) api.Screen {
	s := screen.Copy(rightScreen(r, pick(r, 1, 2, 3, 7), pick(r, 1, 2, 9)))
	numbers := []*int{
		&s.Row, &s.Col, &s.Top, &s.Bottom, &s.Row, &s.Top, &s.Bottom, &s.Saved.Row, &s.Saved.Col,
		&s.Pen.Fore, &s.Pen.Back, &s.Pen.Flags, &s.Shift, &s.Saved.Shift, &s.Saved.Pen.Back, &s.Grid.Rows, &s.Grid.Cols,
	}
	for range r.Intn(5) {
		*pick(r, numbers...) = pick(r, beyond()...)
	}
	if r.Intn(4) == 0 {
		s.Sets, s.Saved.Sets = [2]byte{byte(r.Intn(256)), 0}, [2]byte{0, byte(r.Intn(256))}
		s.Pending = true
	}
	switch r.Intn(12) {
	case 0:
		s.Grid.Cells = nil
	case 1:
		s.Grid.Cells = s.Grid.Cells[:r.Intn(len(s.Grid.Cells))]
	case 2:
		s.Grid.Cells = append(s.Grid.Cells, single(-1, odd))
	case 3:
		s.Grid.Cells[r.Intn(len(s.Grid.Cells))] = api.Cell{Rune: rune(r.Uint32()), Kind: pick(r, 1, 2, 3, -1), Pen: odd}
	}
	if flip(r) {
		s.Row = pick(r, s.Top, s.Bottom)
	}
	return s
}

// paramLists are lists for any ECsi of a screen of that size.
func paramLists(rows, cols int) [][]int {
	all := [][]int{
		nil, {}, {-1, -1}, {-1, 2}, {2, -1}, {0, 0}, {0, 2}, {1, 1}, {2, 2}, {2, 1}, {1, 0}, {1, rows}, {1, rows + 1}, {2, rows}, {1, 2, 3}, {2, 3, 1},
		{rows, cols}, {rows + 1, cols + 1}, {rows - 1, rows}, {rows, rows}, {1, api.MaxParam}, {api.MaxParam, 1}, {api.MaxParam, api.MaxParam},
		{1, 38, 5, 200, 4}, {0, 48, 2, 1, 2, 3, 7}, {6, 7, 25, 1}, {25, -1, 0, 7, 6, 99}, {7, 7}, {6, 6}, slices.Repeat([]int{7}, api.MaxParams),
	}
	for _, n := range []int{-1, 0, 1, 2, 3, 4, 5, 6, 7, 25, 31, 42, rows - 1, rows, rows + 1, cols - 1, cols, cols + 1, rows * cols, 255, 256, api.MaxParam - 1, api.MaxParam} {
		all = append(all, []int{n})
	}
	return all
}

// runesOf are runes for Print.
func runesOf() []rune {
	return []rune{
		'a', ' ', '~', 0x5E, 0x5F, 0x60, 0x6A, 0x71, 0x7E, 0x7F, 0xA0, 0x15F, 0x160, 0x17E, 0x2500, 0x301, 0x4E00, 0xAC00, 0x1F300,
		0, 7, 31, 0x80, 0x9F, 0xD800, 0xDFFF, 0xFFFD, 0x10FFFF, 0x110000, -1, math.MinInt32, math.MaxInt32,
	}
}

// kinds are events of each kind, right ones and others, for a screen of that size:
// all controls, all last bytes, with Inter and Priv and without.
func kinds(rows, cols int) []api.Event {
	all := []api.Event{{}, {Kind: api.EOsc, Text: "0;a"}, {Kind: api.EOsc}, {Kind: 6, Final: 'A'}, {Kind: -1, Rune: 'a', Final: 'D'}}
	for _, x := range runesOf() {
		all = append(all, api.Event{Kind: api.EPrint, Rune: x})
	}
	for b := range 256 {
		all = append(all, api.Event{Kind: api.EExec, Final: byte(b)})
		for _, inter := range []byte{0, '(', ')', '*', ' ', '#', '?'} {
			all = append(all, api.Event{Kind: api.EEsc, Inter: inter, Final: byte(b)})
		}
		for _, priv := range []byte{0, '?', '>', '<', '=', '('} {
			all = append(all, api.Event{Kind: api.ECsi, Priv: priv, Params: []int{2}, Final: byte(b)})
			all = append(all, api.Event{Kind: api.ECsi, Priv: priv, Params: []int{7, 1}, Inter: '!', Final: byte(b)})
		}
	}
	for _, params := range paramLists(rows, cols) {
		for b := 64; b < 127; b++ {
			all = append(all, api.Event{Kind: api.ECsi, Params: params, Final: byte(b)})
		}
		for _, b := range []byte("hlHJrmA") {
			all = append(all, api.Event{Kind: api.ECsi, Priv: '?', Params: params, Final: b})
			all = append(all, api.Event{Kind: api.ECsi, Priv: '?', Params: params, Inter: '$', Final: b})
		}
	}
	return all
}
