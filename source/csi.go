package source

import (
	"linguist/api"
	"linguist/cursor"
	"linguist/edit"
	"linguist/grid"
	"linguist/modes"
	"linguist/pen"
	"linguist/screen"
	"linguist/seq"
	"linguist/tabs"
)

// What of the stops is taken away.
const (
	stopHere = 0
	allStops = 3
)

// csi does an ECsi.
func csi(s api.Screen, e api.Event) api.Screen {
	switch {
	case e.Inter != 0:
		return s
	case e.Priv == 0:
		return move(s, e)
	case e.Priv == '?' && e.Final == 'h':
		return withModes(s, true, e.Params)
	case e.Priv == '?' && e.Final == 'l':
		return withModes(s, false, e.Params)
	}
	return s
}

// number is e's parameter i where the least that can be meant is 1.
func number(e api.Event, i int) int { return seq.Arg(e, i, 1, 1, api.MaxParam) }

// what is e's first parameter where it says what of a thing is meant.
func what(e api.Event) int { return seq.Arg(e, 0, 0, 0, api.MaxParam) }

// move does a plain ECsi, if it moves the cursor. The others follow.
func move(s api.Screen, e api.Event) api.Screen {
	n := number(e, 0)
	switch e.Final {
	case 'A':
		return cursor.Up(s, n)
	case 'B':
		return cursor.Down(s, n)
	case 'C':
		return cursor.At(s, s.Row, s.Col+n)
	case 'D':
		return cursor.At(s, s.Row, s.Col-n)
	case 'E':
		return atStart(cursor.Down(s, n))
	case 'F':
		return atStart(cursor.Up(s, n))
	case 'G', '`':
		return cursor.At(s, s.Row, n-1)
	case 'd':
		return cursor.Go(s, n-1, s.Col)
	case 'H', 'f':
		return cursor.Go(s, n-1, number(e, 1)-1)
	}
	return change(s, e)
}

// change does a plain ECsi, if it changes cells. The others follow.
func change(s api.Screen, e api.Event) api.Screen {
	n, fill := number(e, 0), screen.Fill(s)
	switch e.Final {
	case 'J':
		return withCells(s, edit.Erase(s.Grid, s.Row, s.Col, what(e), fill))
	case 'K':
		return withCells(s, edit.Line(s.Grid, s.Row, s.Col, what(e), fill))
	case 'L':
		return moveLines(s, n, edit.Down)
	case 'M':
		return moveLines(s, n, edit.Up)
	case '@':
		return withCells(s, edit.Insert(s.Grid, s.Row, s.Col, n, fill))
	case 'P':
		return withCells(s, edit.Delete(s.Grid, s.Row, s.Col, n, fill))
	case 'X':
		return withCells(s, grid.Wipe(s.Grid, s.Row, s.Col, s.Col+n, fill))
	case 'S':
		s.Grid = edit.Up(s.Grid, s.Top, s.Bottom, n, fill)
		return s
	case 'T':
		s.Grid = edit.Down(s.Grid, s.Top, s.Bottom, n, fill)
		return s
	}
	return keep(s, e)
}

// keep does a plain ECsi, if it changes what is kept beside the cells.
func keep(s api.Screen, e api.Event) api.Screen {
	switch e.Final {
	case 'm':
		s.Pen = pen.Apply(s.Pen, e.Params...)
	case 'r':
		return withMargins(s, e)
	case 'g':
		s.Tabs = withoutStops(s, what(e))
	case 's':
		return cursor.Save(s)
	case 'u':
		return cursor.Restore(s)
	}
	return s
}

// withCells gives s with what was made of its cells at the cursor: a rune that
// comes behind that is to stand there, not in the next row.
func withCells(s api.Screen, g api.Grid) api.Screen {
	s.Grid = g
	s.Pending = false
	return s
}

// moveLines moves the rows from the cursor's on, if the margins hold it.
func moveLines(s api.Screen, n int, by func(g api.Grid, top, bottom, n int, p api.Pen) api.Grid) api.Screen {
	if s.Row < s.Top || s.Row > s.Bottom {
		return s
	}
	s.Grid = by(s.Grid, s.Row, s.Bottom, n, screen.Fill(s))
	return atStart(s)
}

// withMargins gives s with the margins that e tells, if they are two rows.
func withMargins(s api.Screen, e api.Event) api.Screen {
	rows := s.Grid.Rows
	top, bottom := number(e, 0)-1, seq.Arg(e, 1, rows, 1, rows)-1
	if top >= bottom {
		return s
	}
	s.Top, s.Bottom = top, bottom
	return cursor.Home(s)
}

// withoutStops gives the stops of s without the one here, or none of them.
func withoutStops(s api.Screen, which int) uint64 {
	switch which {
	case stopHere:
		return tabs.Drop(s.Tabs, s.Col)
	case allStops:
		return 0
	}
	return s.Tabs
}

// withModes gives s with modes on or off.
func withModes(s api.Screen, on bool, ns []int) api.Screen {
	for _, n := range ns {
		s = modes.Set(s, n, on)
	}
	return s
}
