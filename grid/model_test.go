package grid_test

import (
	"math"
	"math/rand"
	"slices"

	"linguist/api"
	"linguist/cell"
)

// A second, plain reading of the chapter: a row is its runes, each with the
// places that it takes, and what takes places away from a rune leaves blanks.

func penOf(fore, back, flags int) api.Pen { return api.Pen{Fore: fore, Back: back, Flags: flags} }

func single(x rune, p api.Pen) api.Cell { return api.Cell{Rune: x, Kind: api.Single, Pen: p} }
func left(x rune, p api.Pen) api.Cell   { return api.Cell{Rune: x, Kind: api.Left, Pen: p} }
func right(p api.Pen) api.Cell          { return api.Cell{Kind: api.Right, Pen: p} }
func blank(p api.Pen) api.Cell          { return single(32, p) }

var (
	plain = penOf(-1, -1, 0)
	red   = penOf(1, -1, api.Bold)
	green = penOf(-1, 2, api.Under)
	odd   = penOf(-7, 300, 4000) // not right
)

func gridOf(rows, cols int, cells ...api.Cell) api.Grid {
	return api.Grid{Rows: rows, Cols: cols, Cells: cells}
}

// stacked is a grid of rows of like lengths.
func stacked(rows ...[]api.Cell) api.Grid {
	return gridOf(len(rows), len(rows[0]), slices.Concat(rows...)...)
}

// rowsOf takes a grid that is as great as it says apart again.
func rowsOf(g api.Grid) [][]api.Cell {
	var rows [][]api.Cell
	for cells := range slices.Chunk(slices.Clone(g.Cells), g.Cols) {
		rows = append(rows, slices.Clip(cells))
	}
	return rows
}

func like(a, b api.Grid) bool {
	return a.Rows == b.Rows && a.Cols == b.Cols && slices.Equal(a.Cells, b.Cells)
}

func copied(g api.Grid) api.Grid {
	g.Cells = slices.Clone(g.Cells)
	return g
}

// glyph is a rune and its place in a row of right cells.
type glyph struct {
	at, wide int
	rune     rune
	pen      api.Pen
}

func glyphs(l []api.Cell) []glyph {
	var gs []glyph
	for i, c := range l {
		switch c.Kind {
		case api.Single:
			gs = append(gs, glyph{i, 1, c.Rune, c.Pen})
		case api.Left:
			gs = append(gs, glyph{i, 2, c.Rune, c.Pen})
		}
	}
	return gs
}

// drawn is a row of so many cells of glyphs, the later ones over the others:
// what is over a piece of one leaves blanks of the piece that is left.
func drawn(cols int, gs ...glyph) []api.Cell {
	owner := slices.Repeat([]int{-1}, cols)
	for n, g := range gs {
		for i := g.at; i < min(g.at+g.wide, cols); i++ {
			owner[i] = n
		}
	}
	l := make([]api.Cell, cols)
	for i, n := range owner {
		if n < 0 {
			l[i] = blank(plain)
			continue
		}
		g := gs[n]
		switch {
		case g.wide == 1:
			l[i] = single(g.rune, g.pen)
		case g.at+1 >= cols || owner[g.at] != n || owner[g.at+1] != n:
			l[i] = blank(g.pen)
		case i == g.at:
			l[i] = left(g.rune, g.pen)
		default:
			l[i] = right(g.pen)
		}
	}
	return l
}

// madeNew is P7.1's New.
func madeNew(rows, cols int, p api.Pen) api.Grid {
	rows, cols = max(1, min(40, rows)), max(1, min(60, cols))
	return gridOf(rows, cols, slices.Repeat([]api.Cell{blank(p)}, rows*cols)...)
}

// madeRight is P7.1's Right: a row beginning with what a row may, till none is
// left.
func madeRight(g api.Grid) bool {
	if g.Rows < 1 || g.Rows > 40 || g.Cols < 1 || g.Cols > 60 || g.Rows*g.Cols != len(g.Cells) {
		return false
	}
	for _, l := range rowsOf(g) {
		for len(l) > 0 {
			c := l[0]
			switch {
			case c == single(c.Rune, c.Pen) && cell.Width(c.Rune) == 1 && cell.Right(c.Pen):
				l = l[1:]
			case len(l) > 1 && c == left(c.Rune, c.Pen) && l[1] == right(c.Pen) && cell.Width(c.Rune) == 2 && cell.Right(c.Pen):
				l = l[2:]
			default:
				return false
			}
		}
	}
	return true
}

// mended is P7.3's Mend, with a cell that is no half put on either side.
func mended(l []api.Cell) []api.Cell {
	wide := slices.Concat([]api.Cell{{}}, l, []api.Cell{{}})
	var out []api.Cell
	for i := 1; i <= len(l); i++ {
		c := wide[i]
		if c.Kind == api.Left && wide[i+1].Kind != api.Right || c.Kind == api.Right && wide[i-1].Kind != api.Left {
			c = blank(c.Pen)
		}
		out = append(out, c)
	}
	return out
}

// put is P7.4's Put, of a right grid.
func put(g api.Grid, r, c int, x rune, p api.Pen) api.Grid {
	w := cell.Width(x)
	if w == 0 || r < 0 || r >= g.Rows || c < 0 || c >= g.Cols || g.Cols-c < w {
		return copied(g)
	}
	rows := rowsOf(g)
	rows[r] = drawn(g.Cols, append(glyphs(rows[r]), glyph{c, w, x, p})...)
	return stacked(rows...)
}

// wiped is P7.5's Wipe, of a right grid.
func wiped(g api.Grid, r, from, to int, p api.Pen) api.Grid {
	if r < 0 || r >= g.Rows {
		return copied(g)
	}
	rows := rowsOf(g)
	gs := glyphs(rows[r])
	for c := range g.Cols {
		if from <= c && c < to {
			gs = append(gs, glyph{c, 1, 32, p})
		}
	}
	rows[r] = drawn(g.Cols, gs...)
	return stacked(rows...)
}

// resized is P7.6's Resize, of a right grid.
func resized(g api.Grid, rows, cols int) api.Grid {
	rows, cols = max(1, min(40, rows)), max(1, min(60, cols))
	old := rowsOf(g)
	var now [][]api.Cell
	for r := range rows {
		var gs []glyph
		if r < len(old) {
			gs = slices.DeleteFunc(glyphs(old[r]), func(g glyph) bool { return g.at >= cols })
		}
		now = append(now, drawn(cols, gs...))
	}
	return stacked(now...)
}

// rowsTiled are all rows of so many columns of narrow and wide runes, in either
// of two pens; no two runes of a row are alike.
func rowsTiled(cols int) [][]api.Cell {
	if cols == 0 {
		return [][]api.Cell{nil}
	}
	var rows [][]api.Cell
	for _, p := range []api.Pen{red, green} {
		for _, l := range rowsTiled(cols - 1) {
			rows = append(rows, append(slices.Clip(l), single(rune('a'+cols), p)))
		}
		if cols > 1 {
			for _, l := range rowsTiled(cols - 2) {
				rows = append(rows, append(slices.Clip(l), left(rune(0x4E00+cols), p), right(p)))
			}
		}
	}
	return rows
}

// smallGrids are grids of one to three rows, in which each of rowsTiled stands
// in each place.
func smallGrids() []api.Grid {
	var gs []api.Grid
	for cols := 1; cols <= 5; cols++ {
		all := rowsTiled(cols)
		for i, l := range all {
			next, third := all[(i+1)%len(all)], all[(i+len(all)/2)%len(all)]
			gs = append(gs, stacked(l), stacked(l, next), stacked(l, next, third))
		}
	}
	return gs
}

// lists are all lists of at most so many of these cells.
func lists(most int, of []api.Cell) [][]api.Cell {
	all := [][]api.Cell{nil}
	for first := 0; most > 0; most-- {
		grown := all[first:]
		first = len(all)
		for _, l := range grown {
			for _, c := range of {
				all = append(all, append(slices.Clip(l), c))
			}
		}
	}
	return all
}

// edges are numbers about those of a grid, and those that are far off, also
// such that would be near if bits fell off or if they were multiplied.
func edges(near int) []int {
	ns := []int{math.MinInt, math.MinInt + 1, math.MinInt32, -1 << 32, -100, 1 << 31, 1 << 32, 1<<32 + 1, 1 << 62, math.MaxInt - 1, math.MaxInt}
	for n := -2; n <= near+2; n++ {
		ns = append(ns, n)
	}
	return ns
}

func pick[T any](r *rand.Rand, of ...T) T { return of[r.Intn(len(of))] }

func anyRune(r *rand.Rand) rune {
	return pick(r, 'a', ' ', 0xE4, 0x2500, 0x4E00, 0xAC00, 0x1F300, 0x301, 0, 27, 127, 0xD800, -1, 0x10FFFF, 0x110000, rune(r.Uint32()))
}

func anyPen(r *rand.Rand) api.Pen {
	part := func() int { return pick(r, -1, 0, 1, 2, 255, 256, -2, 1<<24, r.Int(), -r.Int()) }
	return pick(r, plain, red, green, odd, penOf(part(), part(), part()))
}

func anyCell(r *rand.Rand) api.Cell {
	return api.Cell{Rune: anyRune(r), Kind: pick(r, 0, 0, 1, 2, 3, -1, r.Int()), Pen: anyPen(r)}
}

// anyGrid is one of any numbers at all, but mostly with as many cells as it says.
func anyGrid(r *rand.Rand) api.Grid {
	g := api.Grid{Rows: r.Intn(5), Cols: r.Intn(9)}
	n := pick(r, g.Rows*g.Cols, g.Rows*g.Cols, g.Rows*g.Cols, r.Intn(40))
	for range n {
		g.Cells = append(g.Cells, anyCell(r))
	}
	if r.Intn(9) == 0 {
		g.Rows, g.Cols = pick(r, edges(60)...), pick(r, edges(60)...)
	}
	return g
}

// rightGrid is a right one of any size.
func rightGrid(r *rand.Rand) api.Grid {
	rows, cols := pick(r, 1, 2, 3, 24, 40, 1+r.Intn(40)), pick(r, 1, 2, 3, 7, 60, 1+r.Intn(60))
	var all [][]api.Cell
	for range rows {
		var gs []glyph
		for at := 0; at < cols; {
			g := glyph{at, 1, pick(r, 'a', 'z', 32, 0xE4, 0x2500), pick(r, plain, red, green)}
			if at+1 < cols && r.Intn(2) == 0 {
				g.wide, g.rune = 2, pick[rune](r, 0x4E00, 0xAC00, 0x1F300)
			}
			gs = append(gs, g)
			at += g.wide
		}
		all = append(all, drawn(cols, gs...))
	}
	return stacked(all...)
}
