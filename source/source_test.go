package source_test

import (
	"fmt"
	"math"
	"math/rand"
	"slices"
	"strings"
	"testing"

	"linguist/api"
	"linguist/grid"
	"linguist/parse"
	"linguist/pen"
	"linguist/screen"
	"linguist/seq"
	"linguist/source"
	"linguist/tabs"
)

// check holds two screens against each other; what was asked is told only if they
// differ, since telling takes longer than asking.
func check(t *testing.T, got, want api.Screen, asked ...any) {
	t.Helper()
	if !alike(got, want) {
		t.Fatalf("%v:\n%s, not\n%s", asked, short(got), short(want))
	}
}

func printed(x rune) api.Event { return api.Event{Kind: api.EPrint, Rune: x} }

func control(b byte) api.Event { return api.Event{Kind: api.EExec, Final: b} }

func esc(final byte) api.Event { return api.Event{Kind: api.EEsc, Final: final} }

func escOf(inter, final byte) api.Event {
	return api.Event{Kind: api.EEsc, Inter: inter, Final: final}
}

func csi(final byte, params ...int) api.Event {
	return api.Event{Kind: api.ECsi, Params: params, Final: final}
}

func mode(final byte, params ...int) api.Event {
	return api.Event{Kind: api.ECsi, Priv: '?', Params: params, Final: final}
}

// fed is a screen behind bytes.
func fed(s api.Screen, text string) api.Screen { return source.Feed(s, parse.New(), []byte(text)) }

// change is some change of a screen, for tests that begin elsewhere than at some.
type change = func(s *api.Screen)

// changed is s with changes.
func changed(s api.Screen, changes ...change) api.Screen {
	s = own(s)
	for _, c := range changes {
		c(&s)
	}
	return s
}

// at puts the cursor elsewhere; nothing is pending.
func at(r, c int) change {
	return func(s *api.Screen) { s.Row, s.Col, s.Pending = r, c, false }
}

// rowIs puts other cells into a row.
func rowIs(r int, row string) change {
	return func(s *api.Screen) { copy(s.Grid.Cells[r*s.Grid.Cols:], rowBy(row)) }
}

// rowsAre puts other cells into all rows.
func rowsAre(rows ...string) change {
	return func(s *api.Screen) {
		for r, row := range rows {
			rowIs(r, row)(s)
		}
	}
}

func margins(top, bottom int) change {
	return func(s *api.Screen) { s.Top, s.Bottom = top, bottom }
}

func pending(s *api.Screen)  { s.Pending = true }
func still(s *api.Screen)    { s.Pending = false }
func noWrap(s *api.Screen)   { s.Wrap, s.Pending = false, false }
func noOrigin(s *api.Screen) { s.Origin = false }
func ascii(s *api.Screen)    { s.Sets = [2]byte{'B', 'B'} }

// placed is some with the cursor at row r, column c, and something pending in the
// last column.
func placed(r, c int) api.Screen {
	s := changed(some(), at(r, c))
	s.Pending = c == 4
	return s
}

// everywhere calls f for each place of some, and those of the last column with
// something pending and without.
func everywhere(f func(s api.Screen)) {
	for i := range 30 {
		s := placed(i/5, i%5)
		f(s)
		if s.Pending {
			f(changed(s, still))
			f(changed(s, noWrap))
		}
	}
}

func TestSomeIsRight(t *testing.T) {
	everywhere(func(s api.Screen) {
		if !screen.Right(s) {
			t.Error(short(s))
		}
	})
	for _, m := range marginsOf(6) {
		if !screen.Right(changed(some(), margins(m[0], m[1]))) {
			t.Error(m)
		}
	}
}

// P14.1: All of none, one and many; each is done to what the one ahead left.
func TestAll(t *testing.T) {
	check(t, source.All(some()), some(), "none")
	check(t, source.All(some(), []api.Event{}...), some(), "an empty list")
	for _, e := range []api.Event{printed('x'), control(8), esc('E'), csi('A', 2), mode('l', 7), {Kind: api.EOsc, Text: "x"}} {
		check(t, source.All(some(), e), source.Do(some(), e), "one", e)
	}
	es := []api.Event{csi('H', 2, 4), printed('X'), csi('J', 1), esc('7'), csi('m', 7), printed('Y'), mode('h', 25), esc('8'), control(10)}
	want := some()
	for _, e := range es {
		want = source.Do(want, e)
	}
	check(t, source.All(some(), es...), want, "many")
	check(t, source.All(source.All(some(), es[:4]...), es[4:]...), want, "in two parts")
	if got := source.All(screen.New(1, 4), printed('a'), printed('b'), control(8), printed('c')); grid.Text(got.Grid, 0) != "ac  " {
		t.Error(short(got))
	}
}

// P14.1: an EPrint is Print of its rune.
func TestDoPrint(t *testing.T) {
	everywhere(func(s api.Screen) {
		for _, x := range runesOf() {
			check(t, source.Do(s, printed(x)), source.Print(s, x), x)
		}
	})
}

// stream is bytes with events of all kinds, none of them last.
const stream = "ab\x1b[2;3Hx\xe4\xb8\x80\x0e\x1b)0qq\x0f\x1b[1;31mred\x1b[K\r\n\x1b]0;title\x07\x1b7\x1b[2;4r\x1b[?6h\x1b[3;2H\xffz\x1b[L\x1b8\x1b[?7l......\xf0\x9f\x8c\x80\x1bM\x1b[5"

// P14.1: Feed of bytes at once, byte by byte, cut anywhere into two, in chunks at
// random, and of none; what is begun is ended by what comes later.
func TestFeed(t *testing.T) {
	all := []byte(stream + "C!")
	want := source.All(some(), parse.New().Feed(all)...)
	check(t, source.Feed(some(), parse.New(), all), want, "at once")
	s, p := some(), parse.New()
	for _, b := range all {
		s = source.Feed(s, p, []byte{b})
	}
	check(t, s, want, "byte by byte")
	for i := range len(all) + 1 {
		p := parse.New()
		s := source.Feed(some(), p, all[:i])
		check(t, s, source.All(some(), parse.New().Feed(all[:i])...), "ahead of", i)
		check(t, source.Feed(s, p, all[i:]), want, "cut at", i)
	}
	r := rand.New(rand.NewSource(141))
	for range 200 {
		s, p, rest := some(), parse.New(), all
		for len(rest) > 0 {
			n := min(r.Intn(9), len(rest))
			s, rest = source.Feed(s, p, rest[:n]), rest[n:]
		}
		check(t, s, want, "in chunks")
	}
}

// P14.1: Feed of none does nothing, whatever is begun, and that stays begun.
func TestFeedOfNone(t *testing.T) {
	for _, begun := range []string{"", "\x1b", "\x1b[3", "\x1b]0;t", "\xe4\xb8"} {
		p := parse.New()
		p.Feed([]byte(begun))
		check(t, source.Feed(some(), p, nil), some(), begun)
		check(t, source.Feed(some(), p, []byte{}), some(), begun)
		if p.Ground() != (begun == "") {
			t.Errorf("%q", begun)
		}
	}
}

// P14.1: bytes that begin in the midst of a sequence, a string or a rune.
func TestFeedInTheMidst(t *testing.T) {
	start := changed(some(), ascii, at(2, 1))
	for _, q := range []struct {
		begun, rest string
		want        api.Event
	}{
		{"\x1b", "[2C", csi('C', 2)}, {"\x1b[", "2C", csi('C', 2)}, {"\x1b[2", "C", csi('C', 2)}, {"\x1b[1", "2C", csi('C', 12)},
		{"\x1b[?", "25h", mode('h', 25)}, {"\x1b", "D", esc('D')}, {"\x1b(", "0", escOf('(', '0')}, {"\xe4\xb8", "\x80", printed(0x4E00)},
		{"\x1b]0;t", "AAA\x07X", printed('X')}, {"\x1b[3\x1b", "E", esc('E')}, {"\x1bP", "xx\x1b\\Q", printed('Q')},
	} {
		p := parse.New()
		p.Feed([]byte(q.begun))
		check(t, source.Feed(start, p, []byte(q.rest)), source.Do(start, q.want), q)
	}
	check(t, fed(start, "2C"), source.All(start, printed('2'), printed('C')), "nothing begun")
}

// put is what Print of a narrow and of a wide rune makes of the row and the column.
type put struct {
	row          string
	col          int
	narrow, wide string
	atN, atW     int
}

// puts are those that fit into the row, behind and ahead of wide runes, and over
// halves of them; the last column is 4.
func puts() []put {
	return []put{
		{r0, 0, "X<>bc", "() bc", 1, 2}, {r0, 1, "aX bc", "a()bc", 2, 3}, {r0, 2, "a Xbc", "a ()c", 3, 4}, {r0, 3, "a<>Xc", "a<>()", 4, 4},
		{r1, 0, "X []d", "()[]d", 1, 2}, {r1, 1, " X[]d", " ().d", 2, 3}, {r1, 2, "<>X.d", "<>()d", 3, 4}, {r1, 3, "<>.Xd", "<>.()", 4, 4},
		{r2, 0, "X<>[]", "() []", 1, 2}, {r2, 1, "eX []", "e()[]", 2, 3}, {r2, 2, "e X[]", "e ().", 3, 4}, {r2, 3, "e<>X.", "e<>()", 4, 4},
		{r3, 2, "fgX<>", "fg() ", 3, 4}, {r3, 3, "fghX ", "fgh()", 4, 4},
		{r4, 0, "X.ijk", "()ijk", 1, 2}, {r4, 1, ".Xijk", ".()jk", 2, 3}, {r4, 2, "[]Xjk", "[]()k", 3, 4}, {r4, 3, "[]iXk", "[]i()", 4, 4},
	}
}

// P14.2: letters and wide runes that have room, with Wrap and without, in rows
// within the margins and outside; the pen is that of the screen, the other half of
// a wide rune is a blank of its own pen.
func TestPrint(t *testing.T) {
	for _, q := range puts() {
		for _, r := range []int{0, 1, 3, 4, 5} {
			for _, wrap := range []bool{false, true} {
				start := changed(some(), rowIs(r, q.row), at(r, q.col), func(s *api.Screen) { s.Wrap = wrap })
				check(t, source.Print(start, 'X'), changed(start, rowIs(r, q.narrow), at(r, q.atN)), q, r, wrap)
				want := changed(start, rowIs(r, q.wide), at(r, q.atW))
				want.Pending = wrap && q.col == 3
				check(t, source.Print(start, wideOwn), want, q, r, wrap)
			}
		}
	}
}

// P14.2: a letter in the last column, nothing pending: it is put there, the cursor
// stays, and it is pending, if Wrap.
func TestPrintInTheLastColumn(t *testing.T) {
	for r, row := range []string{"a<>bX", "<>[]X", "e<>.X", "fgh X", "[]ijX", "l[]mX"} {
		start := changed(some(), at(r, 4))
		check(t, source.Print(start, 'X'), changed(start, rowIs(r, row), pending), r)
		start = changed(start, noWrap)
		check(t, source.Print(start, 'X'), changed(start, rowIs(r, row)), r, "without Wrap")
		check(t, source.Print(source.Print(start, 'Y'), 'X'), changed(start, rowIs(r, row)), r, "again")
	}
}

// wrapped is where what is put at the end of a row comes: some with other rows,
// and the row in whose beginning it stands.
var wrapped = []struct {
	row, top, bottom, want int
	rows                   []string
}{
	{2, 1, 4, 3, []string{r0, r1, r2, r3, r4, r5}},
	{0, 1, 4, 1, []string{r0, r1, r2, r3, r4, r5}},
	{4, 1, 4, 4, []string{r0, r2, r3, r4, "~~~~~", r5}}, // at Bottom
	{5, 1, 4, 5, []string{r0, r1, r2, r3, r4, r5}},      // the last row, below Bottom
	{4, 1, 3, 5, []string{r0, r1, r2, r3, r4, r5}},      // below Bottom
	{5, 1, 3, 5, []string{r0, r1, r2, r3, r4, r5}},
	{3, 1, 3, 3, []string{r0, r2, r3, "~~~~~", r4, r5}},
	{5, 0, 5, 5, []string{r1, r2, r3, r4, r5, "~~~~~"}}, // Bottom is the last row
	{5, 4, 5, 5, []string{r0, r1, r2, r3, r5, "~~~~~"}},
	{1, 0, 1, 1, []string{r1, "~~~~~", r2, r3, r4, r5}},
}

// over is a row with something put at its beginning: of a wide rune there the
// other half is a blank.
func over(row, put string) string {
	l := []byte(put + row[len(put):])
	if row[len(put)] == '>' {
		l[len(put)] = ' '
	}
	if row[len(put)] == ']' {
		l[len(put)] = '.'
	}
	return string(l)
}

// P14.2: something is pending, and Wrap: the rune stands in the next row's
// beginning; at Bottom the rows go up; nothing is pending any more.
func TestPrintWithSomethingPending(t *testing.T) {
	for _, q := range wrapped {
		start := changed(placed(q.row, 4), margins(q.top, q.bottom))
		for put, x := range map[string]rune{"X": 'X', "()": wideOwn} {
			want := changed(start, rowsAre(q.rows...), at(q.want, len(put)))
			want = changed(want, rowIs(q.want, over(q.rows[q.want], put)))
			check(t, source.Print(start, x), want, q, put)
		}
	}
}

// P14.2: a wide rune without room in the last column, and Wrap: it stands in the
// next row; what stands in the last column stays.
func TestPrintWideWithoutRoom(t *testing.T) {
	for _, q := range wrapped {
		start := changed(some(), margins(q.top, q.bottom), at(q.row, 4))
		want := changed(start, rowsAre(q.rows...), at(q.want, 2))
		want = changed(want, rowIs(q.want, over(q.rows[q.want], "()")))
		check(t, source.Print(start, wideOwn), want, q)
	}
}

// P14.2: a wide rune without room, and without Wrap: it stands in the last columns
// in which it has room, in any row; the cursor stays in the last column, and
// nothing is pending.
func TestPrintWideWithoutWrap(t *testing.T) {
	for r, row := range []string{"a<>()", "<>.()", "e<>()", "fgh()", "[]i()", "l[]()"} {
		start := changed(some(), at(r, 4), noWrap)
		got := source.Print(start, wideOwn)
		check(t, got, changed(start, rowIs(r, row)), r)
		check(t, source.Print(got, wideOwn), got, r, "again")
	}
}

// P14.2: a screen of one column: wide runes do nothing there, what is pending stays;
// narrow ones are put, and pending at once.
func TestPrintInOneColumn(t *testing.T) {
	s := screen.New(3, 1)
	check(t, source.Print(s, wideOwn), s, "wide")
	first := source.Print(s, 'a')
	if !first.Pending || first.Row != 0 || first.Col != 0 || grid.Text(first.Grid, 0) != "a" {
		t.Error(short(first))
	}
	check(t, source.Print(first, wideOwn), first, "wide, something pending")
	got := fed(first, "bcd")
	if grid.Text(got.Grid, 0) != "b" || grid.Text(got.Grid, 1) != "c" || grid.Text(got.Grid, 2) != "d" || got.Row != 2 || !got.Pending {
		t.Error(short(got))
	}
	s.Wrap = false
	check(t, source.Print(s, wideOwn), s, "wide, without Wrap")
	got = fed(s, "abc")
	if grid.Text(got.Grid, 0) != "c" || grid.Text(got.Grid, 1) != " " || got.Row != 0 || got.Pending {
		t.Error(short(got))
	}
}

// P14.2: a screen of two columns is full of one wide rune.
func TestPrintInTwoColumns(t *testing.T) {
	for _, wrap := range []bool{true, false} {
		s := screen.New(2, 2)
		s.Wrap = wrap
		got := source.Print(s, wideOwn)
		if grid.Text(got.Grid, 0) != "\U0001F300" || got.Row != 0 || got.Col != 1 || got.Pending != wrap {
			t.Error(short(got))
		}
		got = source.Print(got, 0x4E00)
		text, row := []string{"\u4e00", "  "}, 0
		if wrap {
			text, row = []string{"\U0001F300", "\u4e00"}, 1
		}
		if grid.Text(got.Grid, 0) != text[0] || grid.Text(got.Grid, 1) != text[1] || got.Row != row || got.Col != 1 || got.Pending != wrap {
			t.Error(wrap, short(got))
		}
	}
}

// P14.2: runes of width 0 do nothing, whatever is pending.
func TestPrintOfNoWidth(t *testing.T) {
	everywhere(func(s api.Screen) {
		for _, sets := range [][2]byte{{'B', 'B'}, {'0', '0'}} {
			s.Sets = sets
			for _, x := range []rune{0, 7, 27, 31, 0x7F, 0x80, 0x9F, 0x300, 0x301, 0x36F, 0xD800, 0xDFFF, 0x110000, -1, math.MinInt32, math.MaxInt32} {
				check(t, source.Print(s, x), s, x)
			}
		}
	})
}

// P14.2: the sets, by Shift: 5E is itself in all, 5F to 7E are drawn, 7F is of no
// width; runes beyond ASCII are themselves, also such that would be drawn if bits
// fell off.
func TestPrintSets(t *testing.T) {
	for _, q := range []struct {
		sets  [2]byte
		shift int
		draws bool
	}{
		{[2]byte{'B', 'B'}, 0, false}, {[2]byte{'B', 'B'}, 1, false}, {[2]byte{'0', 'B'}, 0, true}, {[2]byte{'0', 'B'}, 1, false},
		{[2]byte{'B', '0'}, 0, false}, {[2]byte{'B', '0'}, 1, true}, {[2]byte{'0', '0'}, 0, true}, {[2]byte{'0', '0'}, 1, true},
	} {
		start := changed(some(), at(3, 0), func(s *api.Screen) { s.Sets, s.Shift = q.sets, q.shift })
		for x := rune(0x20); x < 0x200; x++ {
			want := x
			if q.draws && x >= 0x5F && x <= 0x7E {
				want = lineDrawing()[x-0x5F]
			}
			got := source.Print(start, x)
			if x >= 0x7F && x <= 0x9F {
				check(t, got, start, x)
				continue
			}
			check(t, got, changed(start, at(3, 1), func(s *api.Screen) { s.Grid.Cells[15] = single(want, own3) }), q, x)
		}
		for _, x := range []rune{0x2500, 0x265F, 0x2671, 0x10071, 0x1007E, 0xFFFD, 0x10FFFF} {
			got := source.Print(start, x)
			check(t, got, changed(start, at(3, 1), func(s *api.Screen) { s.Grid.Cells[15] = single(x, own3) }), q, x)
		}
	}
	for _, q := range []struct{ x, want rune }{{0x5E, 0x5E}, {0x5F, 32}, {0x60, 0x25C6}, {'q', 0x2500}, {'x', 0x2502}, {0x7E, 0xB7}} {
		s := changed(screen.New(1, 2), func(s *api.Screen) { s.Sets[0] = '0' })
		if got := source.Print(s, q.x); got.Grid.Cells[0] != single(q.want, plain) {
			t.Errorf("%X: %v", q.x, got.Grid.Cells[0])
		}
	}
}

// P14.2: what is printed has the pen of that time, with all its flags and colours;
// what wraps at Bottom brings a row in the pen in which is erased.
func TestPrintPen(t *testing.T) {
	for _, p := range []api.Pen{plain, red, green, own3, penOf(255, api.Direct+77, 255)} {
		start := changed(some(), at(2, 0), func(s *api.Screen) { s.Pen = p })
		if got := source.Print(start, 'X'); got.Grid.Cells[10] != single('X', p) || got.Pen != p {
			t.Error(p, got.Grid.Cells[10])
		}
		start = changed(placed(4, 4), func(s *api.Screen) { s.Pen = p })
		got := source.Print(start, 'X')
		if got.Grid.Cells[20] != single('X', p) || got.Grid.Cells[21] != single(32, penOf(-1, p.Back, 0)) {
			t.Error(p, got.Grid.Cells[20:22])
		}
	}
}

// P14.2: a line of text with wide runes, of odd and even places.
func TestPrintText(t *testing.T) {
	for _, q := range []struct {
		text, row0, row1 string
		row, col         int
		pending          bool
	}{
		{"abcd", "abcd ", "     ", 0, 4, false}, {"abcde", "abcde", "     ", 0, 4, true}, {"abcdef", "abcde", "f    ", 1, 1, false},
		{"一一", "一一 ", "     ", 0, 4, false}, {"一一一", "一一 ", "一   ", 1, 2, false}, {"a一一", "a一一", "     ", 0, 4, true},
		{"a一一b", "a一一", "b    ", 1, 1, false}, {"a一一一", "a一一", "一   ", 1, 2, false}, {"abcd一", "abcd ", "一   ", 1, 2, false},
		{"abcd\u0301e", "abcde", "     ", 0, 4, true}, {"一一a一", "一一a", "一   ", 1, 2, false},
	} {
		got := fed(screen.New(2, 5), q.text)
		if grid.Text(got.Grid, 0) != q.row0 || grid.Text(got.Grid, 1) != q.row1 || got.Row != q.row || got.Col != q.col || got.Pending != q.pending {
			t.Error(q, short(got))
		}
	}
}

// P14.3: 8, 9 and 13: the row stays, nothing is pending.
func TestExecColumns(t *testing.T) {
	stops := func(cols ...int) change { return func(s *api.Screen) { s.Tabs = tabs.Put(0, cols...) } }
	for _, q := range []struct {
		b         byte
		stops     change
		col, want int
	}{
		{8, stops(), 0, 0}, {8, stops(), 1, 0}, {8, stops(), 2, 1}, {8, stops(), 4, 3}, {8, stops(0, 3), 4, 3},
		{13, stops(), 0, 0}, {13, stops(2), 3, 0}, {13, stops(), 4, 0},
		{9, stops(), 0, 4}, {9, stops(), 3, 4}, {9, stops(), 4, 4}, {9, stops(2), 0, 2}, {9, stops(2), 1, 2}, {9, stops(2), 2, 4},
		{9, stops(0), 0, 4}, {9, stops(1, 3), 0, 1}, {9, stops(1, 3), 1, 3}, {9, stops(1, 3), 3, 4}, {9, stops(4), 3, 4}, {9, stops(4), 4, 4},
		{9, stops(7, 63), 1, 4}, {9, stops(2, 63), 4, 4}, {9, stops(0, 1, 2, 3, 4), 2, 3},
	} {
		for r := range 6 {
			start := changed(placed(r, q.col), q.stops)
			check(t, source.Do(start, control(q.b)), changed(start, at(r, q.want)), q, r)
		}
	}
	got := fed(screen.New(1, 60), "\t")
	if got.Col != 8 {
		t.Error(got.Col)
	}
	for _, want := range []int{16, 24, 32, 40, 48, 56, 59, 59} {
		if got = fed(got, "\t"); got.Col != want {
			t.Error(got.Col, want)
		}
	}
}

// fedRows are the rows behind a step down from row 3 or 4 of some.
var fedRows = []struct {
	row, top, bottom, want int
	rows                   []string
}{
	{3, 1, 4, 4, []string{r0, r1, r2, r3, r4, r5}}, {0, 1, 4, 1, []string{r0, r1, r2, r3, r4, r5}},
	{4, 1, 4, 4, []string{r0, r2, r3, r4, "~~~~~", r5}}, {5, 1, 4, 5, []string{r0, r1, r2, r3, r4, r5}},
	{4, 1, 3, 5, []string{r0, r1, r2, r3, r4, r5}}, {5, 0, 5, 5, []string{r1, r2, r3, r4, r5, "~~~~~"}},
}

// P14.3, P14.4: 10, 11, 12 and D a row down; E likewise, to column 0; at Bottom
// the rows go up; nothing is pending.
func TestFeeds(t *testing.T) {
	for _, q := range fedRows {
		for c := range 5 {
			start := changed(placed(q.row, c), margins(q.top, q.bottom))
			want := changed(start, rowsAre(q.rows...), at(q.want, c))
			for _, e := range []api.Event{control(10), control(11), control(12), esc('D')} {
				check(t, source.Do(start, e), want, q, c, e)
			}
			check(t, source.Do(start, esc('E')), changed(want, at(q.want, 0)), q, c)
		}
	}
}

// P14.4: M a row up; at Top the rows go down; nothing is pending.
func TestBack(t *testing.T) {
	for _, q := range []struct {
		row, top, bottom, want int
		rows                   []string
	}{
		{3, 1, 4, 2, []string{r0, r1, r2, r3, r4, r5}}, {5, 1, 4, 4, []string{r0, r1, r2, r3, r4, r5}}, {0, 1, 4, 0, []string{r0, r1, r2, r3, r4, r5}},
		{1, 1, 4, 1, []string{r0, "~~~~~", r1, r2, r3, r5}}, {0, 0, 5, 0, []string{"~~~~~", r0, r1, r2, r3, r4}}, {1, 2, 3, 0, []string{r0, r1, r2, r3, r4, r5}},
	} {
		for c := range 5 {
			start := changed(placed(q.row, c), margins(q.top, q.bottom))
			check(t, source.Do(start, esc('M')), changed(start, rowsAre(q.rows...), at(q.want, c)), q, c)
		}
	}
}

// P14.3: 14 and 15: Shift alone; what is pending stays.
func TestShift(t *testing.T) {
	everywhere(func(s api.Screen) {
		for _, was := range []int{0, 1} {
			s.Shift = was
			check(t, source.Do(s, control(14)), changed(s, func(s *api.Screen) { s.Shift = 1 }), 14)
			check(t, source.Do(s, control(15)), changed(s, func(s *api.Screen) { s.Shift = 0 }), 15)
		}
	})
	got := fed(screen.New(1, 6), "\x1b)0q\x0eq\x0fq\x1b(0q\x0e\x1b)Bq")
	if text := grid.Text(got.Grid, 0); text != "q\u2500q\u2500q " {
		t.Errorf("%q", text)
	}
}

// P14.1, P14.3: other controls do nothing, also those that no parser makes.
func TestOtherControls(t *testing.T) {
	everywhere(func(s api.Screen) {
		for b := range 256 {
			if b < 8 || b > 15 {
				check(t, source.Do(s, control(byte(b))), s, b)
			}
		}
	})
}

// P14.4: 7 saves; what is pending stays, and all but what is saved. 8 puts it back,
// nothing is pending. s and u are the same (P14.7).
func TestSaveAndRestore(t *testing.T) {
	for _, q := range [][2]api.Event{{esc('7'), esc('8')}, {csi('s'), csi('u')}, {csi('s', 5, 6), csi('u', 0)}} {
		everywhere(func(s api.Screen) {
			saved := source.Do(s, q[0])
			check(t, saved, changed(s, func(s *api.Screen) {
				s.Saved = api.Saved{Row: s.Row, Col: s.Col, Pen: own3, Sets: [2]byte{'0', 'B'}, Shift: 1, Origin: true}
			}), "saved")
			check(t, source.Do(s, q[1]), changed(s, at(5, 1), noOrigin, func(s *api.Screen) {
				s.Pen, s.Sets, s.Shift = penOf(-1, 255, 255), [2]byte{'B', '0'}, 0
			}), "restored")
			moved := changed(saved, at(0, 0), noOrigin, func(s *api.Screen) { s.Pen, s.Sets, s.Shift = red, [2]byte{'B', 'B'}, 0 })
			check(t, source.Do(moved, q[1]), changed(saved, still), "there and back")
		})
	}
}

// P14.4: H: a stop at each column, where one is and where none is; nothing else
// changes.
func TestPutStop(t *testing.T) {
	everywhere(func(s api.Screen) {
		for _, was := range []uint64{0, 1 << 2, s.Tabs, math.MaxUint64} {
			s.Tabs = was
			check(t, source.Do(s, esc('H')), changed(s, func(s *api.Screen) { s.Tabs = was | 1<<s.Col }), was)
		}
	})
	s := changed(screen.New(1, 60), at(0, 59))
	if got := source.Do(s, esc('H')); got.Tabs != s.Tabs|1<<59 {
		t.Errorf("%x", got.Tabs)
	}
}

// P14.4: c: a new screen of the same size, of one of which everything was changed.
func TestReset(t *testing.T) {
	everywhere(func(s api.Screen) { check(t, source.Do(s, esc('c')), screen.New(6, 5), "some") })
	r := rand.New(rand.NewSource(142))
	for _, size := range [][2]int{{1, 1}, {1, 60}, {40, 1}, {40, 60}, {3, 9}} {
		check(t, source.Do(rightScreen(r, size[0], size[1]), esc('c')), screen.New(size[0], size[1]), size)
	}
}

// P14.4: = and >: Pad alone; what is pending stays.
func TestPad(t *testing.T) {
	everywhere(func(s api.Screen) {
		for _, was := range []bool{false, true} {
			s.Pad = was
			check(t, source.Do(s, esc('=')), changed(s, func(s *api.Screen) { s.Pad = true }), "on")
			check(t, source.Do(s, esc('>')), changed(s, func(s *api.Screen) { s.Pad = false }), "off")
		}
	})
}

// P14.4: ( and ): G0 and G1 alone, by name; other names do nothing.
func TestSets(t *testing.T) {
	everywhere(func(s api.Screen) {
		for _, was := range [][2]byte{{'B', 'B'}, {'0', 'B'}, {'B', '0'}, {'0', '0'}} {
			s.Sets = was
			for b := range 256 {
				g0, g1 := s, s
				if b == '0' || b == 'B' {
					g0.Sets[0], g1.Sets[1] = byte(b), byte(b)
				}
				check(t, source.Do(s, escOf('(', byte(b))), g0, "G0", b)
				check(t, source.Do(s, escOf(')', byte(b))), g1, "G1", b)
			}
		}
	})
}

// P14.1, P14.4: other last bytes, and other Inters, do nothing.
func TestOtherEscapes(t *testing.T) {
	everywhere(func(s api.Screen) {
		for b := range 256 {
			if !strings.ContainsRune("78DEMHc=>", rune(b)) {
				check(t, source.Do(s, esc(byte(b))), s, b)
			}
		}
		for inter := 1; inter < 256; inter++ {
			if inter == '(' || inter == ')' {
				continue
			}
			for _, final := range []byte("78DEMHc=>0BA") {
				check(t, source.Do(s, escOf(byte(inter), final)), s, inter, final)
			}
		}
	})
}

// of are lists of parameters that mean the same as one number, from 1 on.
func of(n int) [][]int {
	all := [][]int{{n}, {n, 3}, {n, 0}, {n, -1}, {n, 1, 2, 3}}
	if n == 1 {
		all = append(all, nil, []int{}, []int{0}, []int{-1}, []int{0, 4}, []int{-1, 4}, []int{-1, -1, 6})
	}
	return all
}

// moved is where a motion by n ends from a row and a column.
type moved struct {
	final                byte
	n, row, col          int
	wantRow, wantCol     int
	margins              [2]int
	wantOrigin, noOrigin bool // what it asks of Origin
}

// checkMoves asks motions, with something pending and without, Wrap and without.
func checkMoves(t *testing.T, ms ...moved) {
	t.Helper()
	for _, q := range ms {
		for _, params := range of(q.n) {
			for _, origin := range []bool{false, true} {
				if origin && q.noOrigin || !origin && q.wantOrigin {
					continue
				}
				start := changed(placed(q.row, q.col), func(s *api.Screen) { s.Origin = origin })
				if q.margins != [2]int{} {
					margins(q.margins[0], q.margins[1])(&start)
				}
				want := changed(start, at(q.wantRow, q.wantCol))
				check(t, source.Do(start, csi(q.final, params...)), want, q, params, origin)
				noWrap(&start)
				noWrap(&want)
				check(t, source.Do(start, csi(q.final, params...)), want, q, params, origin, "without Wrap")
			}
		}
	}
}

// P14.5: A and B, which stop at the margins but where the cursor is beyond them;
// F and E likewise, and column 0. Margins are 1 to 4 of rows 0 to 5.
func TestUpAndDown(t *testing.T) {
	for _, q := range []struct{ row, n, up, down int }{
		{0, 1, 0, 1}, {0, 2, 0, 2}, {0, 5, 0, 4}, {0, 6, 0, 4}, {0, 7, 0, 4}, {0, api.MaxParam, 0, 4},
		{1, 1, 1, 2}, {1, 2, 1, 3}, {1, 6, 1, 4}, {2, 1, 1, 3}, {2, 2, 1, 4}, {2, 3, 1, 4}, {3, 1, 2, 4}, {3, 2, 1, 4}, {3, 6, 1, 4},
		{4, 1, 3, 4}, {4, 3, 1, 4}, {4, 4, 1, 4}, {4, 6, 1, 4}, {4, api.MaxParam, 1, 4},
		{5, 1, 4, 5}, {5, 2, 3, 5}, {5, 4, 1, 5}, {5, 5, 1, 5}, {5, 6, 1, 5}, {5, api.MaxParam, 1, 5},
	} {
		for c := range 5 {
			checkMoves(t, moved{final: 'A', n: q.n, row: q.row, col: c, wantRow: q.up, wantCol: c})
			checkMoves(t, moved{final: 'B', n: q.n, row: q.row, col: c, wantRow: q.down, wantCol: c})
			checkMoves(t, moved{final: 'F', n: q.n, row: q.row, col: c, wantRow: q.up})
			checkMoves(t, moved{final: 'E', n: q.n, row: q.row, col: c, wantRow: q.down})
		}
	}
	checkMoves(t,
		moved{final: 'A', n: 9, row: 5, col: 1, wantCol: 1, margins: [2]int{0, 5}},
		moved{final: 'B', n: 9, row: 0, col: 1, wantRow: 5, wantCol: 1, margins: [2]int{0, 5}},
		moved{final: 'A', n: 3, row: 2, col: 1, wantCol: 1, margins: [2]int{3, 5}},
		moved{final: 'B', n: 3, row: 3, col: 1, wantRow: 5, wantCol: 1, margins: [2]int{0, 2}},
	)
}

// P14.5: C, D, G and the grave accent: in the row, to its ends.
func TestColumns(t *testing.T) {
	for r := range 6 {
		for c := range 5 {
			for _, n := range []int{1, 2, 3, 4, 5, 6, 255, 256, 257, api.MaxParam} {
				checkMoves(t, moved{final: 'C', n: n, row: r, col: c, wantRow: r, wantCol: min(c+n, 4)})
				checkMoves(t, moved{final: 'D', n: n, row: r, col: c, wantRow: r, wantCol: max(c-n, 0)})
				checkMoves(t, moved{final: 'G', n: n, row: r, col: c, wantRow: r, wantCol: min(n-1, 4)})
				checkMoves(t, moved{final: 0x60, n: n, row: r, col: c, wantRow: r, wantCol: min(n-1, 4)})
			}
		}
	}
}

// P14.5: d: the row, which Origin counts from Top and Bottom ends; the column
// stays.
func TestRow(t *testing.T) {
	for _, q := range []struct{ n, want, wantOrigin int }{
		{1, 0, 1}, {2, 1, 2}, {3, 2, 3}, {4, 3, 4}, {5, 4, 4}, {6, 5, 4}, {7, 5, 4}, {api.MaxParam, 5, 4},
	} {
		for i := range 30 {
			checkMoves(t,
				moved{final: 'd', n: q.n, row: i / 5, col: i % 5, wantRow: q.want, wantCol: i % 5, noOrigin: true},
				moved{final: 'd', n: q.n, row: i / 5, col: i % 5, wantRow: q.wantOrigin, wantCol: i % 5, wantOrigin: true},
			)
		}
	}
}

// P14.5: H and f by hand, without Origin and with it; Wrap, margins and what is
// pending are not asked.
func TestPlace(t *testing.T) {
	for _, q := range []struct {
		params                       []int
		wantRow, wantOrigin, wantCol int
	}{
		{nil, 0, 1, 0}, {[]int{}, 0, 1, 0}, {[]int{0}, 0, 1, 0}, {[]int{-1}, 0, 1, 0}, {[]int{0, 0}, 0, 1, 0}, {[]int{-1, -1}, 0, 1, 0},
		{[]int{1}, 0, 1, 0}, {[]int{1, 1}, 0, 1, 0}, {[]int{2}, 1, 2, 0}, {[]int{2, 0}, 1, 2, 0}, {[]int{2, -1}, 1, 2, 0}, {[]int{2, 1}, 1, 2, 0},
		{[]int{-1, 2}, 0, 1, 1}, {[]int{0, 3}, 0, 1, 2}, {[]int{1, 4}, 0, 1, 3}, {[]int{3, 2}, 2, 3, 1}, {[]int{2, 3}, 1, 2, 2},
		{[]int{4, 5}, 3, 4, 4}, {[]int{5, 5}, 4, 4, 4}, {[]int{6, 5}, 5, 4, 4}, {[]int{7, 6}, 5, 4, 4}, {[]int{6, 6}, 5, 4, 4}, {[]int{7, 5}, 5, 4, 4},
		{[]int{api.MaxParam, 2}, 5, 4, 1}, {[]int{2, api.MaxParam}, 1, 2, 4}, {[]int{api.MaxParam, api.MaxParam}, 5, 4, 4},
		{[]int{2, 3, 4}, 1, 2, 2}, {[]int{2, 3, 4, 5, 6}, 1, 2, 2}, {[]int{257, 257}, 5, 4, 4},
	} {
		for _, final := range []byte{'H', 'f'} {
			everywhere(func(s api.Screen) {
				check(t, source.Do(s, csi(final, q.params...)), changed(s, at(q.wantOrigin, q.wantCol)), q, "with Origin")
				noOrigin(&s)
				check(t, source.Do(s, csi(final, q.params...)), changed(s, at(q.wantRow, q.wantCol)), q)
			})
		}
	}
}

// whats are lists of parameters that mean w.
func whats(w int) [][]int {
	all := [][]int{{w}, {w, 2}, {w, 0}, {w, -1}, {w, 1, 2}}
	if w == 0 {
		all = append(all, nil, []int{}, []int{-1}, []int{-1, 2})
	}
	return all
}

const blank = "~~~~~"

// P14.6: K and J by hand: the cursor's row; J the rows on that side, too. Nothing is
// pending, whatever is erased; margins and Origin are not asked.
func TestErase(t *testing.T) {
	for _, q := range []struct {
		row, col, w int
		want        string
	}{
		{0, 0, 0, blank}, {0, 1, 0, "a~~~~"}, {0, 2, 0, "a ~~~"}, {0, 3, 0, "a<>~~"}, {0, 4, 0, "a<>b~"},
		{0, 0, 1, "~<>bc"}, {0, 1, 1, "~~ bc"}, {0, 2, 1, "~~~bc"}, {0, 3, 1, "~~~~c"}, {0, 4, 1, blank},
		{1, 0, 0, blank}, {1, 1, 0, " ~~~~"}, {1, 2, 0, "<>~~~"}, {1, 3, 0, "<>.~~"}, {1, 4, 0, "<>[]~"},
		{1, 0, 1, "~ []d"}, {1, 1, 1, "~~[]d"}, {1, 2, 1, "~~~.d"}, {1, 3, 1, "~~~~d"}, {1, 4, 1, blank},
		{3, 3, 0, "fgh~~"}, {3, 4, 0, "fgh ~"}, {3, 3, 1, "~~~~ "}, {3, 4, 1, blank},
		{4, 1, 0, ".~~~~"}, {4, 0, 1, "~.ijk"}, {4, 2, 0, "[]~~~"}, {4, 2, 1, "~~~jk"},
		{5, 0, 0, blank}, {5, 4, 0, "l[]m~"}, {5, 4, 1, blank}, {5, 2, 1, "~~~mn"}, {5, 2, 0, "l.~~~"},
		{0, 0, 2, blank}, {0, 4, 2, blank}, {1, 1, 2, blank}, {2, 3, 2, blank}, {5, 4, 2, blank}, {5, 0, 2, blank},
	} {
		start := placed(q.row, q.col)
		for _, params := range whats(q.w) {
			line := changed(start, still, rowIs(q.row, q.want))
			check(t, source.Do(start, csi('K', params...)), line, q, params)
			rows := []string{r0, r1, r2, r3, r4, r5}
			for r := range rows {
				if q.w == 2 || q.w == 0 && r > q.row || q.w == 1 && r < q.row {
					rows[r] = blank
				}
			}
			rows[q.row] = q.want
			check(t, source.Do(start, csi('J', params...)), changed(start, still, rowsAre(rows...)), q, params)
		}
	}
}

// P14.6: J and K of others than 0, 1 and 2: cells stay, but nothing is pending.
func TestEraseOfOthers(t *testing.T) {
	everywhere(func(s api.Screen) {
		for _, w := range []int{3, 4, 5, 255, 256, 257, 258, api.MaxParam} {
			for _, params := range whats(w) {
				check(t, source.Do(s, csi('J', params...)), changed(s, still), "J", params)
				check(t, source.Do(s, csi('K', params...)), changed(s, still), "K", params)
			}
		}
	})
}

// P14.6: L and M by hand: the rows from the cursor's to Bottom; column 0, nothing
// pending.
func TestLines(t *testing.T) {
	for _, q := range []struct {
		row, n            int
		inserted, deleted []string
	}{
		{1, 1, []string{r0, blank, r1, r2, r3, r5}, []string{r0, r2, r3, r4, blank, r5}},
		{1, 2, []string{r0, blank, blank, r1, r2, r5}, []string{r0, r3, r4, blank, blank, r5}},
		{1, 3, []string{r0, blank, blank, blank, r1, r5}, []string{r0, r4, blank, blank, blank, r5}},
		{1, 4, []string{r0, blank, blank, blank, blank, r5}, []string{r0, blank, blank, blank, blank, r5}},
		{1, 5, []string{r0, blank, blank, blank, blank, r5}, []string{r0, blank, blank, blank, blank, r5}},
		{3, 1, []string{r0, r1, r2, blank, r3, r5}, []string{r0, r1, r2, r4, blank, r5}},
		{3, 2, []string{r0, r1, r2, blank, blank, r5}, []string{r0, r1, r2, blank, blank, r5}},
		{3, 6, []string{r0, r1, r2, blank, blank, r5}, []string{r0, r1, r2, blank, blank, r5}},
		{4, 1, []string{r0, r1, r2, r3, blank, r5}, []string{r0, r1, r2, r3, blank, r5}},
		{4, 2, []string{r0, r1, r2, r3, blank, r5}, []string{r0, r1, r2, r3, blank, r5}},
		{2, api.MaxParam, []string{r0, r1, blank, blank, blank, r5}, []string{r0, r1, blank, blank, blank, r5}},
	} {
		for c := range 5 {
			for _, params := range of(q.n) {
				start := placed(q.row, c)
				check(t, source.Do(start, csi('L', params...)), changed(start, rowsAre(q.inserted...), at(q.row, 0)), q, c, params)
				check(t, source.Do(start, csi('M', params...)), changed(start, rowsAre(q.deleted...), at(q.row, 0)), q, c, params)
			}
		}
	}
}

// P14.6: L and M, if the cursor is above the margins or below: nothing at all, the
// column and what is pending stay.
func TestLinesBeyondTheMargins(t *testing.T) {
	for _, m := range marginsOf(6) {
		everywhere(func(s api.Screen) {
			margins(m[0], m[1])(&s)
			if s.Row >= m[0] && s.Row <= m[1] {
				return
			}
			for _, n := range []int{1, 2, 6, api.MaxParam} {
				check(t, source.Do(s, csi('L', n)), s, m, n)
				check(t, source.Do(s, csi('M', n)), s, m, n)
			}
		})
	}
}

// P14.6: @, P and X by hand; nothing is pending, the cursor stays.
func TestCells(t *testing.T) {
	for _, q := range []struct {
		row, col, n              int
		inserted, deleted, wiped string
	}{
		{0, 0, 1, "~a<>b", "<>bc~", "~<>bc"}, {0, 0, 2, "~~a<>", " bc~~", "~~ bc"}, {0, 0, 3, "~~~a ", "bc~~~", "~~~bc"},
		{0, 0, 4, "~~~~a", "c~~~~", "~~~~c"}, {0, 0, 5, blank, blank, blank}, {0, 0, 6, blank, blank, blank}, {0, 0, api.MaxParam, blank, blank, blank},
		{0, 1, 1, "a~<>b", "a bc~", "a~ bc"}, {0, 1, 2, "a~~<>", "abc~~", "a~~bc"}, {0, 1, 3, "a~~~ ", "ac~~~", "a~~~c"}, {0, 1, 4, "a~~~~", "a~~~~", "a~~~~"},
		{0, 2, 1, "a ~ b", "a bc~", "a ~bc"}, {0, 2, 2, "a ~~ ", "a c~~", "a ~~c"}, {0, 2, 3, "a ~~~", "a ~~~", "a ~~~"}, {0, 2, 9, "a ~~~", "a ~~~", "a ~~~"},
		{0, 3, 1, "a<>~b", "a<>c~", "a<>~c"}, {0, 3, 2, "a<>~~", "a<>~~", "a<>~~"}, {0, 3, 5, "a<>~~", "a<>~~", "a<>~~"},
		{0, 4, 1, "a<>b~", "a<>b~", "a<>b~"}, {0, 4, 2, "a<>b~", "a<>b~", "a<>b~"}, {0, 4, api.MaxParam, "a<>b~", "a<>b~", "a<>b~"},
		{1, 1, 1, " ~ []", " []d~", " ~[]d"}, {1, 1, 2, " ~~ .", " .d~~", " ~~.d"}, {1, 2, 1, "<>~[]", "<>.d~", "<>~.d"}, {1, 3, 1, "<>.~.", "<>.d~", "<>.~d"},
		{3, 4, 1, "fgh ~", "fgh ~", "fgh ~"}, {3, 3, 1, "fgh~ ", "fgh ~", "fgh~ "}, {3, 2, 1, "fg~h ", "fg<>~", "fg~<>"}, {5, 4, 1, "l[]m~", "l[]m~", "l[]m~"},
	} {
		for _, params := range of(q.n) {
			start := placed(q.row, q.col)
			check(t, source.Do(start, csi('@', params...)), changed(start, still, rowIs(q.row, q.inserted)), "@", q, params)
			check(t, source.Do(start, csi('P', params...)), changed(start, still, rowIs(q.row, q.deleted)), "P", q, params)
			check(t, source.Do(start, csi('X', params...)), changed(start, still, rowIs(q.row, q.wiped)), "X", q, params)
		}
	}
}

// P14.6: S and T by hand: the rows from Top to Bottom, wherever the cursor is; it
// stays, and what is pending.
func TestScroll(t *testing.T) {
	for _, q := range []struct {
		top, bottom, n int
		up, down       []string
	}{
		{1, 4, 1, []string{r0, r2, r3, r4, blank, r5}, []string{r0, blank, r1, r2, r3, r5}},
		{1, 4, 2, []string{r0, r3, r4, blank, blank, r5}, []string{r0, blank, blank, r1, r2, r5}},
		{1, 4, 3, []string{r0, r4, blank, blank, blank, r5}, []string{r0, blank, blank, blank, r1, r5}},
		{1, 4, 4, []string{r0, blank, blank, blank, blank, r5}, []string{r0, blank, blank, blank, blank, r5}},
		{1, 4, 5, []string{r0, blank, blank, blank, blank, r5}, []string{r0, blank, blank, blank, blank, r5}},
		{1, 4, api.MaxParam, []string{r0, blank, blank, blank, blank, r5}, []string{r0, blank, blank, blank, blank, r5}},
		{0, 5, 1, []string{r1, r2, r3, r4, r5, blank}, []string{blank, r0, r1, r2, r3, r4}},
		{0, 5, 5, []string{r5, blank, blank, blank, blank, blank}, []string{blank, blank, blank, blank, blank, r0}},
		{0, 1, 1, []string{r1, blank, r2, r3, r4, r5}, []string{blank, r0, r2, r3, r4, r5}},
		{4, 5, 1, []string{r0, r1, r2, r3, r5, blank}, []string{r0, r1, r2, r3, blank, r4}},
	} {
		everywhere(func(s api.Screen) {
			margins(q.top, q.bottom)(&s)
			for _, params := range of(q.n) {
				check(t, source.Do(s, csi('S', params...)), changed(s, rowsAre(q.up...)), q, params)
				check(t, source.Do(s, csi('T', params...)), changed(s, rowsAre(q.down...)), q, params)
			}
		})
	}
}

// P14.6, DOC: what is erased is in the back colour of the pen, without flags and
// fore colour, whatever that is.
func TestErasedPen(t *testing.T) {
	for _, p := range []api.Pen{plain, red, green, own3, penOf(255, api.Direct+77, 255)} {
		for _, e := range []api.Event{csi('J', 2), csi('K', 2), csi('L'), csi('M', 9), csi('@', 9), csi('P', 9), csi('X', 9), csi('S', 9), csi('T')} {
			start := changed(some(), at(1, 0), func(s *api.Screen) { s.Pen = p })
			got := source.Do(start, e)
			if got.Grid.Cells[5] != single(32, penOf(-1, p.Back, 0)) || got.Pen != p {
				t.Error(p, e, got.Grid.Cells[5])
			}
		}
	}
}

// P14.7: m: the pen alone, of all parameters; what is pending stays.
func TestPen(t *testing.T) {
	for _, q := range []struct {
		params []int
		want   api.Pen
	}{
		{nil, plain}, {[]int{}, plain}, {[]int{0}, plain}, {[]int{-1}, plain}, {[]int{1}, penOf(3, 4, api.Bold|api.Italic|api.Blink)},
		{[]int{23}, penOf(3, 4, api.Blink)}, {[]int{31, 42, 4}, penOf(1, 2, api.Italic|api.Blink|api.Under)}, {[]int{1, -1, 7}, penOf(-1, -1, api.Inverse)},
		{[]int{38, 5, 200, 4}, penOf(200, 4, api.Italic|api.Blink|api.Under)}, {[]int{48, 2, 1, 2, 3, 25}, penOf(3, api.Direct+66051, api.Italic)},
		{[]int{39, 49}, penOf(-1, -1, api.Italic|api.Blink)}, {[]int{97, 100}, penOf(15, 8, api.Italic|api.Blink)}, {[]int{38, 5}, own3}, {[]int{99}, own3},
		{[]int{0, 1, 2, 3, 4, 5, 7, 8, 9, 22, 30, 31, 32, 33, 34, 45}, penOf(4, 5, 255-api.Bold-api.Dim)},
	} {
		everywhere(func(s api.Screen) {
			check(t, source.Do(s, csi('m', q.params...)), changed(s, func(s *api.Screen) { s.Pen = q.want }), q)
		})
	}
	everywhere(func(s api.Screen) {
		for _, params := range paramLists(6, 5) {
			check(t, source.Do(s, csi('m', params...)), changed(s, func(s *api.Screen) { s.Pen = pen.Apply(own3, params...) }), params)
		}
	})
}

// P14.7: r of margins that may be: these, and home, which Origin counts from the
// new Top; of others nothing, the cursor and what is pending stay.
func TestMargins(t *testing.T) {
	for _, q := range []struct {
		params      []int
		top, bottom int
	}{
		{nil, 0, 5}, {[]int{}, 0, 5}, {[]int{0}, 0, 5}, {[]int{-1}, 0, 5}, {[]int{1}, 0, 5}, {[]int{0, 0}, 0, 5}, {[]int{-1, -1}, 0, 5},
		{[]int{2}, 1, 5}, {[]int{5}, 4, 5}, {[]int{2, 0}, 1, 5}, {[]int{2, -1}, 1, 5}, {[]int{-1, 2}, 0, 1}, {[]int{0, 3}, 0, 2},
		{[]int{1, 2}, 0, 1}, {[]int{1, 6}, 0, 5}, {[]int{1, 7}, 0, 5}, {[]int{2, 5}, 1, 4}, {[]int{3, 4}, 2, 3}, {[]int{5, 6}, 4, 5}, {[]int{5, 7}, 4, 5},
		{[]int{3, api.MaxParam}, 2, 5}, {[]int{2, 4, 6}, 1, 3}, {[]int{2, 4, 1, 9}, 1, 3}, {[]int{1, 258}, 0, 5},
		{[]int{6}, -1, 0}, {[]int{7}, -1, 0}, {[]int{6, 6}, -1, 0}, {[]int{6, 7}, -1, 0}, {[]int{7, 9}, -1, 0}, {[]int{1, 1}, -1, 0}, {[]int{3, 3}, -1, 0},
		{[]int{4, 2}, -1, 0}, {[]int{2, 1}, -1, 0}, {[]int{0, 1}, -1, 0}, {[]int{6, 0}, -1, 0}, {[]int{api.MaxParam}, -1, 0},
		{[]int{api.MaxParam, api.MaxParam}, -1, 0}, {[]int{api.MaxParam, 2}, -1, 0}, {[]int{257, 3}, -1, 0},
	} {
		everywhere(func(s api.Screen) {
			with, without := changed(s), changed(s, noOrigin)
			wantWith, wantWithout := with, without
			if q.top >= 0 {
				wantWith = changed(with, margins(q.top, q.bottom), at(q.top, 0))
				wantWithout = changed(without, margins(q.top, q.bottom), at(0, 0))
			}
			check(t, source.Do(with, csi('r', q.params...)), wantWith, q, "with Origin")
			check(t, source.Do(without, csi('r', q.params...)), wantWithout, q)
		})
	}
}

// P14.7: r of a screen of one row does nothing, of one of two only these two.
func TestMarginsOfFewRows(t *testing.T) {
	s := changed(screen.New(1, 3), at(0, 2), pending)
	for _, params := range paramLists(1, 3) {
		check(t, source.Do(s, csi('r', params...)), s, params)
	}
	s = changed(screen.New(2, 3), at(1, 2), pending)
	check(t, source.Do(s, csi('r')), changed(s, at(0, 0)), "both")
	check(t, source.Do(s, csi('r', 2)), s, "one")
}

// P14.7: g: 0 the stop here, in each column; 3 all; others nothing.
func TestDropStops(t *testing.T) {
	everywhere(func(s api.Screen) {
		for _, was := range []uint64{0, s.Tabs, 1<<s.Col | 1<<63, math.MaxUint64} {
			s.Tabs = was
			for _, w := range []int{0, 3, 1, 2, 4, 5, 255, 256, 259, api.MaxParam} {
				want := was
				switch w {
				case 0:
					want = was &^ (1 << s.Col)
				case 3:
					want = 0
				}
				for _, params := range whats(w) {
					check(t, source.Do(s, csi('g', params...)), changed(s, func(s *api.Screen) { s.Tabs = want }), params)
				}
			}
		}
	})
}

// P14.7: h and l with Priv ?: each mode, in order; unknown ones are passed over.
func TestModes(t *testing.T) {
	keys := func(on bool) change { return func(s *api.Screen) { s.Keys = on } }
	shown := func(on bool) change { return func(s *api.Screen) { s.Shown = on } }
	origin := func(on bool) change { return func(s *api.Screen) { s.Origin = on } }
	wrap := func(s *api.Screen) { s.Wrap = true }
	everywhere(func(s api.Screen) {
		for _, q := range []struct {
			e    api.Event
			want []change
		}{
			{mode('h'), nil}, {mode('l'), nil}, {mode('h', -1), nil}, {mode('l', 0), nil}, {mode('h', 4, 12, 2004, api.MaxParam), nil},
			{mode('h', 1), []change{keys(true)}}, {mode('l', 1), []change{keys(false)}}, {mode('h', 25), []change{shown(true)}}, {mode('l', 25), []change{shown(false)}},
			{mode('h', 7), []change{wrap}}, {mode('l', 7), []change{noWrap}}, {mode('h', 6), []change{origin(true), at(1, 0)}}, {mode('l', 6), []change{origin(false), at(0, 0)}},
			{mode('l', 1, 25), []change{keys(false), shown(false)}}, {mode('l', 25, 1), []change{keys(false), shown(false)}},
			{mode('h', 25, 99, 7), []change{shown(true), wrap}}, {mode('l', -1, 7, 0, 1), []change{noWrap, keys(false)}},
			{mode('h', 6, 6), []change{origin(true), at(1, 0)}}, {mode('l', 7, 6, 1, 25), []change{noWrap, origin(false), at(0, 0), keys(false), shown(false)}},
			{mode('h', slices.Repeat([]int{25}, 16)...), []change{shown(true)}},
		} {
			check(t, source.Do(s, q.e), changed(s, q.want...), q.e)
		}
	})
}

// named are the last bytes of an ECsi that do something without Priv, and with it.
const named, namedPriv = "ABCDEFG`dHfJKLM@PXSTmrgsu", "hl"

// P14.1, P14.5 to P14.7: last bytes that aren't named, and each of them with
// another Priv, or an Inter, do nothing; nor does an OSC, nor what has no kind.
func TestOthers(t *testing.T) {
	lists := [][]int{nil, {0}, {1}, {2}, {7}, {25}, {2, 3}}
	everywhere(func(s api.Screen) {
		for b := range 256 {
			for _, params := range lists {
				if !strings.ContainsRune(named, rune(b)) || b > 127 {
					check(t, source.Do(s, csi(byte(b), params...)), s, b, params)
				}
				if !strings.ContainsRune(namedPriv, rune(b)) {
					check(t, source.Do(s, mode(byte(b), params...)), s, "?", b, params)
				}
			}
		}
		for _, final := range []byte(named + namedPriv) {
			for _, params := range lists {
				for _, priv := range []byte{'<', '=', '>', '!', 1, 255} {
					check(t, source.Do(s, api.Event{Kind: api.ECsi, Priv: priv, Params: params, Final: final}), s, priv, final)
				}
				for _, inter := range []byte{' ', '!', '$', '(', ')', '/', '?', 1, 255} {
					for _, priv := range []byte{0, '?', '>'} {
						check(t, source.Do(s, api.Event{Kind: api.ECsi, Priv: priv, Inter: inter, Params: params, Final: final}), s, priv, inter, final)
					}
				}
			}
		}
		for _, e := range []api.Event{{}, {Kind: api.EOsc}, {Kind: api.EOsc, Text: "0;title"}, {Kind: api.EOsc, Text: "A", Final: 'A', Rune: 'a'}} {
			check(t, source.Do(s, e), s, e)
		}
		for _, kind := range []int{0, -1, 6, 7, 257, math.MinInt, math.MaxInt} {
			for _, final := range []byte("ADEcJ\n\r") {
				check(t, source.Do(s, api.Event{Kind: kind, Rune: 'a', Final: final, Params: []int{2}}), s, kind, final)
			}
		}
	})
}

// checkDo asks the model what an event does, and whether the answer is right.
func checkDo(t *testing.T, s api.Screen, e api.Event) api.Screen {
	t.Helper()
	got := source.Do(s, e)
	check(t, got, doBy(s, e), e, short(s))
	if !screen.Right(got) {
		t.Fatalf("%v: %s: %s isn't right", e, short(s), short(got))
	}
	return got
}

// P14.1 to P14.8: all events, at places of some: each of them at several, the next
// one at others.
func TestAllEvents(t *testing.T) {
	es := kinds(6, 5)
	i := 0
	everywhere(func(s api.Screen) {
		for j := i % 5; j < len(es); j += 5 {
			checkDo(t, s, es[j])
		}
		i++
	})
}

// P14.1 to P14.8: small screens of all margins, with the cursor at each place, and
// of all events one in so many, another one each time.
func TestSmallScreens(t *testing.T) {
	all := map[[2]int][]api.Event{}
	for i, s := range smallScreens(rand.New(rand.NewSource(143))) {
		size := [2]int{s.Grid.Rows, s.Grid.Cols}
		if all[size] == nil {
			all[size] = kinds(size[0], size[1])
		}
		es := all[size]
		for j := i % 31; j < len(es); j += 31 {
			checkDo(t, s, es[j])
		}
	}
}

// anyEvent is one for a screen of that size, which mostly does something.
func anyEvent(r *rand.Rand, rows, cols int) api.Event {
	switch n := r.Intn(40); {
	case n == 0:
		return pick(r, kinds(rows, cols)...)
	case n < 16:
		return printed(pick(r, runesOf()...))
	case n < 21:
		return control(byte(r.Intn(16)))
	case n < 26:
		return pick(r, esc(pick(r, []byte("78DEMH=>DEMDEM")...)), escOf(pick[byte](r, '(', ')'), pick[byte](r, '0', 'B', 'A')))
	case n < 31:
		return mode(pick[byte](r, 'h', 'l'), pick(r, [][]int{{1}, {6}, {7}, {25}, {7, 25}, {7, 6, 1}}...)...)
	}
	return csi(named[r.Intn(len(named))], pick(r, paramLists(rows, cols)...)...)
}

// P14.1 to P14.8: events at random, one behind the other, of screens up to the
// limits: all screens on the way are right.
func TestAtRandom(t *testing.T) {
	r := rand.New(rand.NewSource(144))
	for _, size := range [][2]int{{1, 1}, {1, 9}, {2, 1}, {2, 2}, {3, 7}, {7, 3}, {24, 20}, {40, 60}} {
		for range 5 {
			start := rightScreen(r, size[0], size[1])
			s := start
			var es []api.Event
			for range 80 {
				e := anyEvent(r, size[0], size[1])
				es = append(es, e)
				s = checkDo(t, s, e)
			}
			check(t, source.All(start, es...), s, "all at once", short(start))
		}
	}
}

// P14.1, P14.8: any bytes at all, and those of events, in chunks: the model does
// what comes of them.
func TestFeedAtRandom(t *testing.T) {
	r := rand.New(rand.NewSource(145))
	for range 300 {
		rows, cols := 1+r.Intn(6), 1+r.Intn(9)
		var b []byte
		for range 30 {
			b = append(b, seq.Print(anyEvent(r, rows, cols))...)
			if r.Intn(6) == 0 {
				b = append(b, byte(r.Intn(256)))
			}
		}
		s := rightScreen(r, rows, cols)
		want := s
		for _, e := range parse.New().Feed(b) {
			want = doBy(want, e)
		}
		check(t, source.Feed(s, parse.New(), b), want, fmt.Sprintf("%q", b))
		got, p := s, parse.New()
		for chunk := range slices.Chunk(b, 1+r.Intn(7)) {
			got = source.Feed(got, p, chunk)
		}
		check(t, got, want, fmt.Sprintf("%q in chunks", b))
		if !screen.Right(got) {
			t.Fatalf("%q: %s isn't right", b, short(got))
		}
	}
}

// roomy is a copy of s with room behind its cells that isn't zero.
func roomy(s api.Screen) api.Screen {
	n := len(s.Grid.Cells)
	s.Grid.Cells = append(own(s).Grid.Cells, single(71, odd), single(72, red), single(73, green))[:n]
	return s
}

func full[T any](l []T) []T { return l[:cap(l)] }

func fill(l []api.Cell) {
	for i := range l {
		l[i] = api.Cell{Rune: 99, Kind: 98, Pen: penOf(97, 96, 95)}
	}
}

// someScreens are right ones, and some that aren't.
func someScreens() []api.Screen {
	ss := []api.Screen{some(), placed(4, 4), placed(0, 0), placed(1, 2), screen.New(1, 1), screen.New(3, 5), {}, {Grid: api.Grid{Cells: []api.Cell{}}}}
	r := rand.New(rand.NewSource(146))
	for range 30 {
		ss = append(ss, anyScreen(r))
	}
	return ss
}

// someEvents are those that do something, and some that do nothing.
func someEvents() []api.Event {
	es := []api.Event{{}, {Kind: api.EOsc, Text: "t"}, csi('q'), mode('h', 6), mode('h', 7), mode('l', 25, 1), mode('l', 99), csi('m', 7), csi('r', 2, 3)}
	for _, x := range []rune{'a', 'q', wideOwn, 0x301, -1} {
		es = append(es, printed(x))
	}
	for b := byte(7); b < 17; b++ {
		es = append(es, control(b))
	}
	for _, b := range []byte("78DEMHc=>A") {
		es = append(es, esc(b), escOf('(', b), escOf(')', '0'), escOf('(', 'B'))
	}
	for _, b := range []byte(named) {
		es = append(es, csi(b), csi(b, 3), csi(b, 2, 3), csi(b, math.MinInt, math.MaxInt), csi(b, math.MaxInt, math.MinInt))
	}
	return es
}

// R2: what is handed in stays: cells and their spare room, parameters and theirs,
// the list of events, the bytes.
func TestHandedInStays(t *testing.T) {
	es := someEvents()
	for i := range es {
		es[i].Params = append(slices.Clone(es[i].Params), 71, 72)[:len(es[i].Params)]
	}
	es = append(es, csi('A'), csi('B'))[:len(es)]
	wasAll := slices.Clone(full(es))
	for i := range wasAll {
		wasAll[i].Params = slices.Clone(full(wasAll[i].Params))
	}
	kept := func() bool {
		for i, e := range full(es) {
			if !slices.Equal(full(e.Params), wasAll[i].Params) || e.Kind != wasAll[i].Kind || e.Final != wasAll[i].Final || e.Text != wasAll[i].Text {
				return false
			}
		}
		return true
	}
	for _, s := range someScreens() {
		s = roomy(s)
		was, cells := own(s), slices.Clone(full(s.Grid.Cells))
		stays := func() bool { return alike(s, was) && slices.Equal(full(s.Grid.Cells), cells) }
		for _, e := range es {
			source.Do(s, e)
			if source.Print(s, e.Rune); !stays() {
				t.Fatal(e, short(s))
			}
		}
		source.All(s, es...)
		b := []byte(stream + "more")[:len(stream)]
		if source.Feed(s, parse.New(), b); !stays() || string(full(b)[:len(stream)+4]) != stream+"more" {
			t.Fatal(short(s))
		}
	}
	if !kept() {
		t.Error("events changed")
	}
}

// R2: an answer is nobody else's: it is written full, and what was handed in,
// what came ahead and what comes later stays; so does an answer when what was
// handed in is written full. Only what is as it was may share its cells.
func TestAnswersAreNew(t *testing.T) {
	for _, given := range someScreens() {
		for _, e := range someEvents() {
			calls := []func(s api.Screen) api.Screen{
				func(s api.Screen) api.Screen { return source.Do(s, e) },
				func(s api.Screen) api.Screen { return source.All(s, control(14), e, csi('m', 3)) },
				func(s api.Screen) api.Screen { return source.Feed(s, parse.New(), seq.Print(e, esc('='), e)) },
				func(s api.Screen) api.Screen { return source.Print(s, e.Rune) },
			}
			for i, call := range calls {
				s := roomy(given)
				was := slices.Clone(full(s.Grid.Cells))
				ahead := call(s)
				if alike(ahead, s) {
					continue
				}
				want := own(ahead)
				fill(full(call(s).Grid.Cells))
				if !slices.Equal(full(s.Grid.Cells), was) || !alike(ahead, want) || !alike(call(s), want) {
					t.Fatal(i, e, short(s))
				}
				fill(full(s.Grid.Cells))
				if !alike(ahead, want) {
					t.Fatal("kept", i, e, short(given))
				}
			}
		}
	}
}

// R1: right screens, and any parameters: all calls end, and the answer is right.
func TestNumbersBeyond(t *testing.T) {
	for _, s := range []api.Screen{some(), placed(0, 0), placed(5, 4), placed(1, 2), screen.New(1, 1), screen.New(40, 60)} {
		for _, n := range beyond() {
			for _, m := range []int{math.MinInt, -2, -1, 0, 1, 2, 6, 7, 40, 1 << 32, math.MaxInt} {
				for _, b := range []byte(named + namedPriv) {
					for _, e := range []api.Event{csi(b, n, m), csi(b, m, n, m), mode(b, n, m)} {
						if got := source.Do(s, e); !screen.Right(got) {
							t.Fatal(e, short(s), short(got))
						}
					}
				}
			}
			if got := source.Print(s, rune(n)); !screen.Right(got) {
				t.Fatal(n, short(s), short(got))
			}
		}
	}
}

// ends calls all that there is with s.
func ends(t *testing.T, what string, s api.Screen, es []api.Event) {
	t.Helper()
	defer func() {
		if x := recover(); x != nil {
			t.Fatalf("%s: %v: %+v", what, x, s)
		}
	}()
	for _, e := range es {
		source.Do(s, e)
		source.Print(s, e.Rune)
	}
	source.All(s, es...)
	source.Feed(s, parse.New(), []byte(stream))
}

// R1: screens that aren't right, one thing wrong or two, of which nothing is
// promised but that all ends.
func TestWrongScreens(t *testing.T) {
	wrong := map[string]change{
		"no cells":           func(s *api.Screen) { s.Grid.Cells = nil },
		"a cell too few":     func(s *api.Screen) { s.Grid.Cells = s.Grid.Cells[:min(29, len(s.Grid.Cells))] },
		"no rows":            func(s *api.Screen) { s.Grid.Rows = 0 },
		"no columns":         func(s *api.Screen) { s.Grid.Cols = 0 },
		"rows below nought":  func(s *api.Screen) { s.Grid.Rows, s.Grid.Cols = math.MinInt, math.MinInt },
		"many rows":          func(s *api.Screen) { s.Grid.Rows, s.Grid.Cols = math.MaxInt, math.MaxInt },
		"margins round":      margins(4, 1),
		"margins beyond":     margins(6, 7),
		"Bottom beyond":      margins(1, 6),
		"margins below":      margins(-2, -1),
		"margins far off":    margins(math.MinInt, math.MaxInt),
		"margins far round":  margins(math.MaxInt, math.MinInt),
		"one row of margins": margins(3, 3),
		"cursor below":       at(6, 5),
		"cursor above":       at(-1, -1),
		"cursor far":         at(math.MaxInt, math.MinInt),
		"cursor far, round":  at(math.MinInt, math.MaxInt),
		"saved far":          func(s *api.Screen) { s.Saved.Row, s.Saved.Col = math.MaxInt, math.MinInt },
		"pending elsewhere":  func(s *api.Screen) { s.Col, s.Wrap, s.Pending = 0, false, true },
		"pen":                func(s *api.Screen) { s.Pen, s.Saved.Pen = odd, odd },
		"Shift below":        func(s *api.Screen) { s.Sets, s.Shift = [2]byte{}, -7 },
		"Shift beyond":       func(s *api.Screen) { s.Shift, s.Saved.Shift = 2, math.MaxInt },
		"lost halves":        rowIs(2, "<[>)]"),
		"nothing":            func(s *api.Screen) { *s = api.Screen{} },
	}
	// A half is lost of what has cells to lose it.
	whole := wrong["lost halves"]
	wrong["lost halves"] = func(s *api.Screen) {
		if len(s.Grid.Cells) > 20 && s.Grid.Cols == 5 {
			whole(s)
		}
	}
	es := someEvents()
	for name, one := range wrong {
		for other, two := range wrong {
			ends(t, name+", "+other, changed(some(), one, two), es)
		}
	}
}

// R1: any numbers at all, in all places.
func TestAnyNumbers(t *testing.T) {
	r := rand.New(rand.NewSource(147))
	for range 3000 {
		es := []api.Event{anyEvent(r, 3, 5), {Kind: r.Intn(9) - 2, Rune: rune(r.Uint32()), Priv: byte(r.Intn(256)), Inter: byte(r.Intn(256)), Final: byte(r.Intn(256))}}
		for range 20 {
			b := named[r.Intn(len(named))]
			es = append(es, csi(b, pick(r, beyond()...), pick(r, beyond()...)), csi(b), printed(pick(r, runesOf()...)), control(byte(r.Intn(16))))
		}
		ends(t, "any numbers", anyScreen(r), es)
	}
}

// The chapter's runs.
func TestRuns(t *testing.T) {
	s := fed(screen.New(2, 3), "abcd")
	if grid.Text(s.Grid, 0) != "abc" || grid.Text(s.Grid, 1) != "d  " {
		t.Error(short(s))
	}
	s = fed(s, "\x1b[H\x1b[P")
	if grid.Text(s.Grid, 0) != "bc " || grid.Text(s.Grid, 1) != "d  " {
		t.Error(short(s))
	}
}
