package edit_test

import (
	"math"
	"math/rand"
	"slices"

	"linguist/api"
	"linguist/cell"
)

// A second, plain reading of the chapter: a row is its runes, each with its
// place; they are moved, parted or left out one by one, and the row is drawn
// anew from what is left.

func penOf(fore, back, flags int) api.Pen { return api.Pen{Fore: fore, Back: back, Flags: flags} }

func single(x rune, p api.Pen) api.Cell { return api.Cell{Rune: x, Kind: api.Single, Pen: p} }
func left(x rune, p api.Pen) api.Cell   { return api.Cell{Rune: x, Kind: api.Left, Pen: p} }
func right(p api.Pen) api.Cell          { return api.Cell{Kind: api.Right, Pen: p} }
func blank(p api.Pen) api.Cell          { return single(32, p) }

var (
	plain = penOf(-1, -1, 0)
	red   = penOf(1, -1, api.Bold)
	green = penOf(-1, 2, api.Under)
	blue  = penOf(4, 4, 0)
	odd   = penOf(-7, 300, 4000) // not right
)

func gridOf(rows, cols int, cells ...api.Cell) api.Grid {
	return api.Grid{Rows: rows, Cols: cols, Cells: cells}
}

// stacked is a grid of rows of like lengths.
func stacked(rows ...[]api.Cell) api.Grid {
	return gridOf(len(rows), len(rows[0]), slices.Concat(rows...)...)
}

// rowsOf takes a grid that is as great as it says apart again.
func rowsOf(g api.Grid) [][]api.Cell {
	var rows [][]api.Cell
	for cells := range slices.Chunk(slices.Clone(g.Cells), g.Cols) {
		rows = append(rows, slices.Clip(cells))
	}
	return rows
}

func like(a, b api.Grid) bool {
	return a.Rows == b.Rows && a.Cols == b.Cols && slices.Equal(a.Cells, b.Cells)
}

func isRow(g api.Grid, r int) bool      { return r >= 0 && r < g.Rows }
func isPlace(g api.Grid, r, c int) bool { return isRow(g, r) && c >= 0 && c < g.Cols }

// glyph is a rune and its place in a row of right cells.
type glyph struct {
	at, wide int
	rune     rune
	pen      api.Pen
}

// space is a blank of that pen.
func space(at int, p api.Pen) glyph { return glyph{at, 1, 32, p} }

func glyphs(l []api.Cell) []glyph {
	var gs []glyph
	for i, c := range l {
		switch c.Kind {
		case api.Single:
			gs = append(gs, glyph{i, 1, c.Rune, c.Pen})
		case api.Left:
			gs = append(gs, glyph{i, 2, c.Rune, c.Pen})
		}
	}
	return gs
}

// drawn is a row of so many cells of glyphs, the later ones over the others:
// what is over a piece of one, or beyond the row, leaves blanks of the piece
// that is left.
func drawn(cols int, gs ...glyph) []api.Cell {
	owner := slices.Repeat([]int{-1}, cols)
	for n, g := range gs {
		for i := g.at; i < min(g.at+g.wide, cols); i++ {
			owner[i] = n
		}
	}
	l := make([]api.Cell, cols)
	for i, n := range owner {
		g := gs[n]
		switch {
		case g.wide == 1:
			l[i] = single(g.rune, g.pen)
		case g.at+1 >= cols || owner[g.at] != n || owner[g.at+1] != n:
			l[i] = blank(g.pen)
		case i == g.at:
			l[i] = left(g.rune, g.pen)
		default:
			l[i] = right(g.pen)
		}
	}
	return l
}

// withRow is g with another row r.
func withRow(g api.Grid, r int, gs []glyph) api.Grid {
	rows := rowsOf(g)
	rows[r] = drawn(g.Cols, gs...)
	return stacked(rows...)
}

// parted are the glyphs of a row, with blanks for one across c.
func parted(l []api.Cell, c int) []glyph {
	var gs []glyph
	for _, x := range glyphs(l) {
		if x.at == c-1 && x.wide == 2 {
			gs = append(gs, space(c-1, x.pen), space(c, x.pen))
			continue
		}
		gs = append(gs, x)
	}
	return gs
}

// inserted is P8.1's Insert, of a right grid.
func inserted(g api.Grid, r, c, n int, p api.Pen) api.Grid {
	if !isPlace(g, r, c) {
		return g
	}
	var gs []glyph
	for _, x := range parted(rowsOf(g)[r], c) {
		if x.at >= c {
			x.at += n
		}
		gs = append(gs, x)
	}
	for at := c; at < min(c+n, g.Cols); at++ {
		gs = append(gs, space(at, p))
	}
	return withRow(g, r, gs)
}

// deleted is P8.2's Delete, of a right grid.
func deleted(g api.Grid, r, c, n int, p api.Pen) api.Grid {
	if !isPlace(g, r, c) {
		return g
	}
	var gs []glyph
	for _, x := range parted(rowsOf(g)[r], c) {
		switch {
		case x.at < c:
			gs = append(gs, x)
		case x.at >= c+n:
			x.at -= n
			gs = append(gs, x)
		case x.at+x.wide > c+n:
			gs = append(gs, space(c, x.pen))
		}
	}
	for at := max(c, g.Cols-n); at < g.Cols; at++ {
		gs = append(gs, space(at, p))
	}
	return withRow(g, r, gs)
}

// moved is P8.3's Up, or its Down for n below 0.
func moved(g api.Grid, top, bottom, n int, p api.Pen) api.Grid {
	if !isRow(g, top) || !isRow(g, bottom) || top > bottom {
		return g
	}
	was, now := rowsOf(g), rowsOf(g)
	for r := top; r <= bottom; r++ {
		now[r] = slices.Repeat([]api.Cell{blank(p)}, g.Cols)
		if top <= r+n && r+n <= bottom {
			now[r] = was[r+n]
		}
	}
	return stacked(now...)
}

// lined is P8.4's Line, of a right grid.
func lined(g api.Grid, r, c, what int, p api.Pen) api.Grid {
	if !isPlace(g, r, c) {
		return g
	}
	gs := glyphs(rowsOf(g)[r])
	for at := range g.Cols {
		if what == 0 && at >= c || what == 1 && at <= c || what == 2 {
			gs = append(gs, space(at, p))
		}
	}
	return withRow(g, r, gs)
}

// erased is P8.4's Erase, of a right grid.
func erased(g api.Grid, r, c, what int, p api.Pen) api.Grid {
	if !isPlace(g, r, c) {
		return g
	}
	rows := rowsOf(lined(g, r, c, what, p))
	for i := range rows {
		if what == 0 && i > r || what == 1 && i < r || what == 2 {
			rows[i] = slices.Repeat([]api.Cell{blank(p)}, g.Cols)
		}
	}
	return stacked(rows...)
}

// isRight tells whether g is right: its rows begin with what a row may, till
// none is left.
func isRight(g api.Grid) bool {
	if g.Rows < 1 || g.Rows > 40 || g.Cols < 1 || g.Cols > 60 || g.Rows*g.Cols != len(g.Cells) {
		return false
	}
	for _, l := range rowsOf(g) {
		for len(l) > 0 {
			c := l[0]
			switch {
			case c == single(c.Rune, c.Pen) && cell.Width(c.Rune) == 1 && cell.Right(c.Pen):
				l = l[1:]
			case len(l) > 1 && c == left(c.Rune, c.Pen) && l[1] == right(c.Pen) && cell.Width(c.Rune) == 2 && cell.Right(c.Pen):
				l = l[2:]
			default:
				return false
			}
		}
	}
	return true
}

// rowsTiled are all rows of so many columns of narrow and wide runes, in either
// of two pens; no two runes of a row are alike.
func rowsTiled(cols int) [][]api.Cell {
	if cols == 0 {
		return [][]api.Cell{nil}
	}
	var rows [][]api.Cell
	for _, p := range []api.Pen{red, green} {
		for _, l := range rowsTiled(cols - 1) {
			rows = append(rows, append(slices.Clip(l), single(rune('a'+cols), p)))
		}
		if cols > 1 {
			for _, l := range rowsTiled(cols - 2) {
				rows = append(rows, append(slices.Clip(l), left(rune(0x4E00+cols), p), right(p)))
			}
		}
	}
	return rows
}

// smallGrids are grids of one to three rows, in which each of rowsTiled stands
// in each place.
func smallGrids() []api.Grid {
	var gs []api.Grid
	for cols := 1; cols <= 5; cols++ {
		all := rowsTiled(cols)
		for i, l := range all {
			next, third := all[(i+1)%len(all)], all[(i+len(all)/2)%len(all)]
			gs = append(gs, stacked(l), stacked(l, next), stacked(l, next, third))
		}
	}
	return gs
}

// highGrids are grids of one to five rows, no two of them alike.
func highGrids() []api.Grid {
	var gs []api.Grid
	all := rowsTiled(3)
	for i := range all[5:] {
		for rows := 1; rows <= 5; rows++ {
			gs = append(gs, stacked(all[i:i+rows]...))
		}
	}
	return gs
}

// edges are numbers about those of a grid, and those that are far off, also
// such that would be near if bits fell off or if they were multiplied.
func edges(near int) []int {
	ns := []int{math.MinInt, math.MinInt + 1, math.MinInt32, -1 << 32, -100, 1 << 31, 1 << 32, 1<<32 + 1, 1 << 62, math.MaxInt - 1, math.MaxInt}
	for n := -2; n <= near+2; n++ {
		ns = append(ns, n)
	}
	return ns
}

// counts are numbers of cells or rows to move where there are so many: none, as
// many, one more, and the greatest.
func counts(there int) []int {
	ns := []int{api.MaxParam - 1, api.MaxParam}
	for n := range max(there, 0) + 3 {
		ns = append(ns, n)
	}
	return ns
}

func pick[T any](r *rand.Rand, of ...T) T { return of[r.Intn(len(of))] }

func anyPen(r *rand.Rand) api.Pen {
	part := func() int { return pick(r, -1, 0, 1, 2, 255, 256, -2, 1<<24, r.Int(), -r.Int()) }
	return pick(r, plain, red, green, odd, penOf(part(), part(), part()))
}

// anyGrid is one of any numbers at all, but mostly with as many cells as it says.
func anyGrid(r *rand.Rand) api.Grid {
	g := api.Grid{Rows: r.Intn(5), Cols: r.Intn(9)}
	n := pick(r, g.Rows*g.Cols, g.Rows*g.Cols, g.Rows*g.Cols, r.Intn(40))
	for range n {
		x := pick(r, 'a', ' ', 0x4E00, 0x301, 0, -1, 0x110000, rune(r.Uint32()))
		g.Cells = append(g.Cells, api.Cell{Rune: x, Kind: pick(r, 0, 0, 1, 2, 3, -1, r.Int()), Pen: anyPen(r)})
	}
	if r.Intn(9) == 0 {
		g.Rows, g.Cols = pick(r, edges(60)...), pick(r, edges(60)...)
	}
	return g
}

// rightGrid is a right one of any size.
func rightGrid(r *rand.Rand) api.Grid {
	rows, cols := pick(r, 1, 2, 3, 24, 40, 1+r.Intn(40)), pick(r, 1, 2, 3, 7, 60, 1+r.Intn(60))
	var all [][]api.Cell
	for range rows {
		var gs []glyph
		for at := 0; at < cols; {
			g := glyph{at, 1, pick(r, 'a', 'z', 32, 0xE4, 0x2500), pick(r, plain, red, green)}
			if at+1 < cols && r.Intn(2) == 0 {
				g.wide, g.rune = 2, pick[rune](r, 0x4E00, 0xAC00, 0x1F300)
			}
			gs = append(gs, g)
			at += g.wide
		}
		all = append(all, drawn(cols, gs...))
	}
	return stacked(all...)
}
