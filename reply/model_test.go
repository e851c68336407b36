package reply_test

import (
	"fmt"
	"math"
	"math/rand"
	"reflect"
	"slices"

	"linguist/api"
	"linguist/grid"
	"linguist/parse"
	"linguist/screen"
	"linguist/source"
)

// A second, plain reading of the chapter: what stands about the parameters is a
// text, by which the answer is found; answers are texts by a format.

// toBy is P15.1's To.
func toBy(s api.Screen, e api.Event) string {
	if e.Kind != api.ECsi {
		return ""
	}
	n := 0
	if len(e.Params) > 0 && e.Params[0] != api.Default {
		n = e.Params[0]
	}
	switch about := fmt.Sprintf("%d %d %c", e.Priv, e.Inter, e.Final); {
	case about == "0 0 n" && n == 5:
		return "\x1b[0n"
	case about == "0 0 n" && n == 6:
		return fmt.Sprintf("\x1b[%d;%dR", rowBy(s), s.Col+1)
	case about == "0 0 c" && n == 0:
		return "\x1b[?6c"
	case about == fmt.Sprintf("%d %d p", '?', '$'):
		return fmt.Sprintf("\x1b[?%d;%d$y", n, reportBy(s, n))
	}
	return ""
}

// rowBy counts the rows down to the cursor's, from 1 on: from the first one, or
// from Top.
func rowBy(s api.Screen) int {
	row := 1
	for r := range s.Row {
		if !s.Origin || r >= s.Top {
			row++
		}
	}
	return row
}

// reportBy is P13.2's Report.
func reportBy(s api.Screen, n int) int {
	on, ok := map[int]bool{1: s.Keys, 6: s.Origin, 7: s.Wrap, 25: s.Shown}[n]
	switch {
	case !ok:
		return 0
	case on:
		return 1
	}
	return 2
}

// allBy is P15.2's All.
func allBy(s api.Screen, es []api.Event) (api.Screen, string) {
	out := ""
	for _, e := range es {
		out += toBy(s, e)
		s = source.Do(s, e)
	}
	return s, out
}

// asksBy looks for a screen of which there is an answer.
func asksBy(ss []api.Screen, e api.Event) bool {
	return slices.ContainsFunc(ss, func(s api.Screen) bool { return toBy(s, e) != "" })
}

func csi(final byte, params ...int) api.Event {
	return api.Event{Kind: api.ECsi, Params: params, Final: final}
}

// csiOf is one with what may stand about its parameters, too.
func csiOf(priv, inter, final byte, params ...int) api.Event {
	return api.Event{Kind: api.ECsi, Priv: priv, Params: params, Inter: inter, Final: final}
}

func mode(final byte, params ...int) api.Event { return csiOf('?', 0, final, params...) }

// modeAsked is the question for a mode.
func modeAsked(params ...int) api.Event { return csiOf('?', '$', 'p', params...) }

// askedBy is like it, with any last byte.
func askedBy(final byte, params ...int) api.Event { return csiOf('?', '$', final, params...) }

func printed(x rune) api.Event { return api.Event{Kind: api.EPrint, Rune: x} }

func control(b byte) api.Event { return api.Event{Kind: api.EExec, Final: b} }

func esc(final byte) api.Event { return api.Event{Kind: api.EEsc, Final: final} }

// The questions that hang on nothing but the screen.
var (
	isWell  = csi('n', 5)
	isWhere = csi('n', 6)
	isWhat  = csi('c')
)

func parsed(text string) []api.Event { return parse.New().Feed([]byte(text)) }

func penOf(fore, back, flags int) api.Pen { return api.Pen{Fore: fore, Back: back, Flags: flags} }

// some is a right screen of which nothing is as New makes it: six rows of five
// columns, one of them above the margins, one below.
func some() api.Screen {
	g := grid.New(6, 5, penOf(1, -1, 0))
	for i := range 30 {
		g = grid.Put(g, i/5, i%5, rune('A'+i), penOf(-1, i, 0))
	}
	return api.Screen{
		Grid: grid.Put(g, 3, 1, 0x4E00, penOf(2, 3, 4)),
		Row:  2, Col: 4, Pending: true, Top: 1, Bottom: 4, Pen: penOf(3, 4, api.Italic),
		Tabs: 1<<2 | 1<<7, Sets: [2]byte{'0', 'B'}, Shift: 1,
		Wrap: true, Origin: true, Shown: false, Keys: true, Pad: true,
		Saved: api.Saved{Row: 5, Col: 1, Pen: penOf(-1, 255, 255), Sets: [2]byte{'B', '0'}},
	}
}

// own is s with cells of its own.
func own(s api.Screen) api.Screen {
	s.Grid.Cells = append(make([]api.Cell, 0, len(s.Grid.Cells)), s.Grid.Cells...)
	return s
}

// alike holds all that two screens hold against each other.
func alike(a, b api.Screen) bool {
	cells := slices.Equal(a.Grid.Cells, b.Grid.Cells)
	a.Grid.Cells, b.Grid.Cells = nil, nil
	return cells && reflect.DeepEqual(a, b)
}

// short tells a screen: its rows, and all else.
func short(s api.Screen) string {
	rows := ""
	for r := range min(s.Grid.Rows, api.MaxRows) {
		rows += fmt.Sprintf("%q ", grid.Text(s.Grid, r))
	}
	s.Grid.Cells = nil
	return rows + fmt.Sprintf("%+v", s)
}

func pick[T any](r *rand.Rand, of ...T) T { return of[r.Intn(len(of))] }

func flip(r *rand.Rand) bool { return r.Intn(2) == 0 }

// rightScreen is a right one of that size, with the cursor and the margins
// anywhere.
func rightScreen(r *rand.Rand, rows, cols int) api.Screen {
	s := screen.New(rows, cols)
	for range 3 {
		s.Grid = grid.Put(s.Grid, r.Intn(rows), r.Intn(cols), pick[rune](r, 'x', 0x4E00), penOf(-1, r.Intn(256), 0))
	}
	s.Row, s.Col, s.Wrap = r.Intn(rows), pick(r, r.Intn(cols), cols-1), flip(r)
	s.Pending = s.Wrap && s.Col == cols-1 && flip(r)
	if rows > 1 {
		s.Top = r.Intn(rows - 1)
		s.Bottom = s.Top + 1 + r.Intn(rows-1-s.Top)
	}
	s.Origin, s.Shown, s.Keys, s.Pad = flip(r), flip(r), flip(r), flip(r)
	return s
}

// beyond are numbers that nothing is promised of, and near ones, also such that
// would be near if bits fell off.
func beyond() []int {
	return []int{
		math.MinInt, math.MinInt + 1, -1 << 32, math.MinInt32, -65536, -9, -2, -1, 0, 1, 2, 3, 5, 6, 7, 25, 39, 40, 41, 60, 261, 262,
		65534, 65535, 65536, 65541, 65542, math.MaxInt32, 1 << 32, 1<<32 + 5, 1<<32 + 6, 1 << 62, math.MaxInt - 1, math.MaxInt,
	}
}

// wrongScreen is one of any numbers at all.
func wrongScreen(r *rand.Rand) api.Screen {
	s := rightScreen(r, pick(r, 1, 2, 7), pick(r, 1, 2, 9))
	numbers := []*int{&s.Row, &s.Col, &s.Top, &s.Bottom, &s.Pen.Fore, &s.Shift, &s.Saved.Row, &s.Saved.Col, &s.Grid.Rows, &s.Grid.Cols}
	for range r.Intn(5) {
		*pick(r, numbers...) = pick(r, beyond()...)
	}
	switch r.Intn(5) {
	case 0:
		s.Grid.Cells = nil
	case 1:
		s.Grid.Cells = s.Grid.Cells[:r.Intn(len(s.Grid.Cells))]
	case 2:
		s.Grid.Cells[0] = api.Cell{Rune: rune(r.Uint32()), Kind: pick(r, 1, 2, 3, -1), Pen: penOf(-7, 300, 4000)}
	}
	return s
}

// paramLists are lists for any ECsi, right ones.
func paramLists() [][]int {
	all := [][]int{
		nil, {}, {-1, -1}, {-1, 0}, {-1, 5}, {-1, 6}, {-1, 25}, {0, -1}, {0, 0}, {0, 1}, {0, 5}, {5, 6}, {6, 5}, {5, 0}, {6, 0}, {1, 5}, {7, 6}, {1, 0}, {5, -1}, {6, -1},
		{1, 6, 7, 25}, {25, 7, 6, 1}, {2, 1}, {7, 7}, {6, 6, 6}, {api.MaxParam, 6}, slices.Repeat([]int{6}, api.MaxParams), slices.Repeat([]int{-1}, api.MaxParams),
	}
	for n := range 40 {
		all = append(all, []int{n})
	}
	for _, n := range []int{-1, 47, 66, 255, 256, 257, 261, 262, 281, 1049, 2004, api.MaxParam - 1, api.MaxParam} {
		all = append(all, []int{n})
	}
	return all
}

// kinds are events of each kind, right ones and others: all last bytes, with Priv
// and Inter and without, and all parameters of those that ask.
func kinds() []api.Event {
	all := []api.Event{{}, {Kind: api.EOsc}, {Kind: api.EOsc, Text: "6n"}}
	for _, x := range []rune{'n', 'c', 'p', 5, 6, 0x4E00, 0x301, -1} {
		all = append(all, printed(x))
	}
	for b := range 256 {
		for _, inter := range []byte{0, '(', '$', '?'} {
			all = append(all, control(byte(b)), api.Event{Kind: api.EEsc, Inter: inter, Final: byte(b)})
		}
		for _, priv := range []byte{0, '?', '>', '<', '=', '$', 1, 255} {
			for _, inter := range []byte{0, '$', ' ', '!', '"', '?', 1, 255} {
				for _, n := range []int{0, 5, 6} {
					all = append(all, csiOf(priv, inter, byte(b)), csiOf(priv, inter, byte(b), n))
				}
			}
		}
	}
	for _, params := range paramLists() {
		for _, b := range []byte("ncpyRhlmHJq") {
			for _, priv := range []byte{0, '?', '>'} {
				all = append(all, csiOf(priv, 0, b, params...), csiOf(priv, '$', b, params...))
			}
		}
	}
	return append(all, otherKinds()...)
}

// otherKinds are events that would be answered, but are of another kind.
func otherKinds() []api.Event {
	var all []api.Event
	for _, e := range []api.Event{isWell, isWhere, isWhat, csi('n', 5, 1), modeAsked(), modeAsked(25), modeAsked(3)} {
		for _, kind := range []int{math.MinInt, -1, 0, api.EPrint, api.EExec, api.EEsc, api.EOsc, 6, 7, 1<<32 + api.ECsi, math.MaxInt} {
			e.Kind = kind
			all = append(all, e)
		}
	}
	return all
}
