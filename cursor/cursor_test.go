package cursor_test

import (
	"fmt"
	"math"
	"math/rand"
	"slices"
	"testing"

	"linguist/api"
	"linguist/cursor"
	"linguist/grid"
	"linguist/screen"
)

// check holds two screens against each other; what was asked is told only if they
// differ, since telling takes longer than asking.
func check(t *testing.T, got, want api.Screen, asked ...any) {
	t.Helper()
	if !alike(got, want) {
		t.Fatalf("%v:\n%s, not\n%s", asked, short(got), short(want))
	}
}

// checkCalls asks each call of s, and whether what it answers is right.
func checkCalls(t *testing.T, s api.Screen, calls ...call) {
	t.Helper()
	for _, q := range calls {
		got := q.of(s)
		check(t, got, q.by(s), q.name, short(s))
		if !screen.Right(got) {
			t.Fatalf("%s: %s: %s isn't right", q.name, short(s), short(got))
		}
	}
}

// placed is some with the cursor at row r, column c, and something pending in the
// last column.
func placed(r, c int) api.Screen {
	s := some()
	s.Row, s.Col, s.Pending = r, c, c == 3
	return s
}

// at is s with the cursor elsewhere, nothing pending, and all else as it was.
func at(s api.Screen, r, c int) api.Screen {
	s.Row, s.Col, s.Pending = r, c, false
	return s
}

func TestSomeIsRight(t *testing.T) {
	for r := range 8 {
		for c := range 4 {
			if !screen.Right(placed(r, c)) {
				t.Error(r, c)
			}
		}
	}
}

// P12.1: At of each place of a screen, from each place; all else stays.
func TestAtEachPlace(t *testing.T) {
	for i := range 32 {
		s := placed(i/4, i%4)
		for j := range 32 {
			check(t, cursor.At(s, j/4, j%4), at(some(), j/4, j%4), i, j)
		}
	}
}

// P12.1: At of what is no place, by hand.
func TestAtNearest(t *testing.T) {
	for _, q := range []struct{ r, c, wantRow, wantCol int }{
		{-1, 0, 0, 0}, {0, -1, 0, 0}, {-1, -1, 0, 0}, {-1, 2, 0, 2}, {5, -1, 5, 0},
		{8, 0, 7, 0}, {0, 4, 0, 3}, {8, 4, 7, 3}, {9, 5, 7, 3}, {8, 2, 7, 2}, {5, 4, 5, 3},
		{-1, 4, 0, 3}, {8, -1, 7, 0}, {7, 4, 7, 3}, {8, 3, 7, 3},
		{-far, -far, 0, 0}, {far, far, 7, 3}, {-far, far, 0, 3}, {far, -far, 7, 0},
		{far, 1, 7, 1}, {1, far, 1, 3}, {-far, 1, 0, 1}, {1, -far, 1, 0},
		{4, 5, 4, 3}, {6, 7, 6, 3}, {-256, 1, 0, 1}, {256, 1, 7, 1}, {65536, 65536, 7, 3},
	} {
		for _, s := range []api.Screen{some(), placed(0, 0), placed(7, 3)} {
			check(t, cursor.At(s, q.r, q.c), at(s, q.wantRow, q.wantCol), q)
		}
	}
}

// P12.1: what is pending is so no more, also where the cursor stays.
func TestAtPending(t *testing.T) {
	for _, q := range [][2]int{{3, 3}, {3, 4}, {3, far}, {2, 3}, {0, 0}} {
		if got := cursor.At(some(), q[0], q[1]); got.Pending {
			t.Error(q)
		}
	}
	check(t, cursor.At(some(), 3, 3), changed(some(), func(s *api.Screen) { s.Pending = false }), "the same place")
	check(t, cursor.At(placed(3, 1), 3, 1), placed(3, 1), "nothing pending")
}

// P12.1: At of sizes up to the limits, to places about and far off; margins and
// Origin are not asked.
func TestAtSizes(t *testing.T) {
	rnd := rand.New(rand.NewSource(121))
	for _, size := range [][2]int{{1, 1}, {1, 60}, {40, 1}, {2, 3}, {39, 59}, {40, 60}} {
		s := rightScreen(rnd, size[0], size[1])
		for _, r := range numbersTo(size[0]) {
			got := cursor.At(s, r, 0)
			check(t, got, atBy(s, r, 0), size, r)
		}
		for _, c := range numbersTo(size[1]) {
			got := cursor.At(s, 0, c)
			check(t, got, atBy(s, 0, c), size, c)
		}
	}
}

// byRow is what a call makes of some, with other margins, from a row: rows are
// those behind it; none: they stay.
type byRow struct {
	top, bottom, row, want int
	rows                   []string
}

// checkRows asks the call in the last column, with something pending and without,
// and ahead of it; a ~ is a blank of the pen in which is erased.
func checkRows(t *testing.T, of func(s api.Screen) api.Screen, qs []byRow) {
	t.Helper()
	for _, q := range qs {
		for _, c := range []int{0, 1, 3} {
			for _, back := range []int{-1, 0, 4, 255, api.Direct, 2*api.Direct - 1} {
				s := placed(q.row, c)
				s.Top, s.Bottom, s.Pen.Back = q.top, q.bottom, back
				want := at(own(s), q.want, c)
				if q.rows != nil {
					want.Grid.Cells = erasedBy(cellsBy(q.rows...), back)
				}
				check(t, of(s), want, q, c, back)
				s.Pending = false
				check(t, of(s), want, q, c, back, "nothing pending")
			}
		}
	}
}

func erasedBy(l []api.Cell, back int) []api.Cell {
	for i := range l {
		if l[i].Rune == '~' {
			l[i] = single(32, penOf(-1, back, 0))
		}
	}
	return l
}

const none = "~~~~"

// P12.2: Feed by hand: above Top, at Top, between, one above Bottom, at Bottom,
// below it, in the last row.
func TestFeed(t *testing.T) {
	checkRows(t, cursor.Feed, []byRow{
		{2, 5, 0, 1, nil}, {2, 5, 1, 2, nil},
		{2, 5, 2, 3, nil}, {2, 5, 3, 4, nil}, {2, 5, 4, 5, nil},
		{2, 5, 5, 5, []string{r0, r1, r3, r4, r5, none, r6, r7}},
		{2, 5, 6, 7, nil}, {2, 5, 7, 7, nil},
		{0, 7, 0, 1, nil}, {0, 7, 6, 7, nil},
		{0, 7, 7, 7, []string{r1, r2, r3, r4, r5, r6, r7, none}},
		{0, 1, 1, 1, []string{r1, none, r2, r3, r4, r5, r6, r7}},
		{0, 1, 0, 1, nil}, {0, 1, 2, 3, nil}, {0, 1, 7, 7, nil},
		{6, 7, 7, 7, []string{r0, r1, r2, r3, r4, r5, r7, none}},
		{6, 7, 6, 7, nil}, {6, 7, 5, 6, nil}, {6, 7, 0, 1, nil},
		{0, 6, 7, 7, nil}, {0, 6, 6, 6, []string{r1, r2, r3, r4, r5, r6, none, r7}},
	})
}

// P12.2: Back by hand: the same, turned round.
func TestBack(t *testing.T) {
	checkRows(t, cursor.Back, []byRow{
		{2, 5, 7, 6, nil}, {2, 5, 6, 5, nil},
		{2, 5, 5, 4, nil}, {2, 5, 4, 3, nil}, {2, 5, 3, 2, nil},
		{2, 5, 2, 2, []string{r0, r1, none, r2, r3, r4, r6, r7}},
		{2, 5, 1, 0, nil}, {2, 5, 0, 0, nil},
		{0, 7, 7, 6, nil}, {0, 7, 1, 0, nil},
		{0, 7, 0, 0, []string{none, r0, r1, r2, r3, r4, r5, r6}},
		{6, 7, 6, 6, []string{r0, r1, r2, r3, r4, r5, none, r6}},
		{6, 7, 7, 6, nil}, {6, 7, 5, 4, nil}, {6, 7, 0, 0, nil},
		{0, 1, 0, 0, []string{none, r0, r2, r3, r4, r5, r6, r7}},
		{0, 1, 1, 0, nil}, {0, 1, 2, 1, nil}, {0, 1, 7, 6, nil},
		{1, 7, 0, 0, nil}, {1, 7, 1, 1, []string{r0, none, r1, r2, r3, r4, r5, r6}},
	})
}

// P12.2: of one row, which is Top and Bottom: it goes either way.
func TestFeedAndBackOfOneRow(t *testing.T) {
	s := screen.New(1, 4)
	s.Grid.Cells = rowBy("a<>b")
	s.Col, s.Pending, s.Pen = 3, true, penOf(3, 4, 255)
	want := at(own(s), 0, 3)
	want.Grid.Cells = slices.Repeat([]api.Cell{single(32, penOf(-1, 4, 0))}, 4)
	check(t, cursor.Feed(s), want, "Feed")
	check(t, cursor.Back(s), want, "Back")
}

// P12.2: the pen that is erased in is the cursor's, not the saved one; Fore and
// flags count for nothing, and the pens stay.
func TestFeedAndBackPen(t *testing.T) {
	s := screen.New(2, 3)
	s.Pen, s.Saved.Pen = penOf(1, 2, 255), penOf(6, 7, 8)
	erased := single(32, penOf(-1, 2, 0))
	for _, q := range []struct{ row, other int }{{0, 1}, {1, 0}} {
		s.Row = q.row
		got := cursor.Back(s)
		if q.row == 1 {
			got = cursor.Feed(s)
		}
		if got.Grid.Cells[3*q.row] != erased || got.Grid.Cells[3*q.other] != single(32, plain) || got.Pen != s.Pen || got.Saved != s.Saved {
			t.Error(q, short(got))
		}
	}
}

// byStep is where n rows further lead from a row of some.
type byStep struct{ row, n, want int }

func checkSteps(t *testing.T, of func(s api.Screen, n int) api.Screen, qs []byStep) {
	t.Helper()
	for _, q := range qs {
		for _, c := range []int{0, 2, 3} {
			s := placed(q.row, c)
			check(t, of(s, q.n), at(s, q.want, c), q, c)
			s.Pending, s.Origin = false, false
			check(t, of(s, q.n), at(s, q.want, c), q, c, "without origin")
		}
	}
}

// P12.3: Up by hand: from each row by none, by one, as many as there are to Top or
// to the first row, one more, and MaxParam.
func TestUp(t *testing.T) {
	checkSteps(t, cursor.Up, []byStep{
		{0, 0, 0}, {0, 1, 0}, {0, 2, 0}, {0, 65535, 0},
		{1, 0, 1}, {1, 1, 0}, {1, 2, 0}, {1, 65535, 0},
		{2, 0, 2}, {2, 1, 2}, {2, 2, 2}, {2, 3, 2}, {2, 65535, 2},
		{3, 0, 3}, {3, 1, 2}, {3, 2, 2}, {3, 3, 2}, {3, 65535, 2},
		{4, 0, 4}, {4, 1, 3}, {4, 2, 2}, {4, 3, 2}, {4, 4, 2}, {4, 65535, 2},
		{5, 0, 5}, {5, 1, 4}, {5, 2, 3}, {5, 3, 2}, {5, 4, 2}, {5, 5, 2}, {5, 65535, 2},
		{6, 0, 6}, {6, 1, 5}, {6, 3, 3}, {6, 4, 2}, {6, 5, 2}, {6, 6, 2}, {6, 65535, 2},
		{7, 0, 7}, {7, 1, 6}, {7, 2, 5}, {7, 3, 4}, {7, 4, 3}, {7, 5, 2}, {7, 6, 2}, {7, 7, 2}, {7, 65535, 2},
	})
}

// P12.3: Down by hand, turned round.
func TestDown(t *testing.T) {
	checkSteps(t, cursor.Down, []byStep{
		{7, 0, 7}, {7, 1, 7}, {7, 2, 7}, {7, 65535, 7},
		{6, 0, 6}, {6, 1, 7}, {6, 2, 7}, {6, 65535, 7},
		{5, 0, 5}, {5, 1, 5}, {5, 2, 5}, {5, 3, 5}, {5, 65535, 5},
		{4, 0, 4}, {4, 1, 5}, {4, 2, 5}, {4, 3, 5}, {4, 65535, 5},
		{3, 0, 3}, {3, 1, 4}, {3, 2, 5}, {3, 3, 5}, {3, 4, 5}, {3, 65535, 5},
		{2, 0, 2}, {2, 1, 3}, {2, 2, 4}, {2, 3, 5}, {2, 4, 5}, {2, 5, 5}, {2, 65535, 5},
		{1, 0, 1}, {1, 1, 2}, {1, 3, 4}, {1, 4, 5}, {1, 5, 5}, {1, 6, 5}, {1, 65535, 5},
		{0, 0, 0}, {0, 1, 1}, {0, 2, 2}, {0, 3, 3}, {0, 4, 4}, {0, 5, 5}, {0, 6, 5}, {0, 7, 5}, {0, 65535, 5},
	})
}

// P12.3: each number of rows that may be asked for.
func TestUpAndDownEachNumber(t *testing.T) {
	for _, q := range []struct{ row, top, bottom, up, down int }{{3, 2, 5, 2, 5}, {0, 1, 2, 0, 2}, {3, 0, 2, 0, 3}} {
		s := screen.New(4, 1)
		if q.bottom == 5 {
			s = screen.New(8, 1)
		}
		s.Row, s.Top, s.Bottom = q.row, q.top, q.bottom
		for n := range api.MaxParam + 1 {
			if got := cursor.Up(s, n); got.Row != max(q.row-n, q.up) {
				t.Fatal(q, n, got.Row)
			}
			if got := cursor.Down(s, n); got.Row != min(q.row+n, q.down) {
				t.Fatal(q, n, got.Row)
			}
		}
	}
}

// P12.4: Go by hand, without Origin and with it.
func TestGo(t *testing.T) {
	for _, q := range []struct{ r, c, wantRow, wantOrigin, wantCol int }{
		{0, 0, 0, 2, 0}, {0, 3, 0, 2, 3}, {1, 2, 1, 3, 2}, {2, 0, 2, 4, 0},
		{3, 1, 3, 5, 1},
		{4, 1, 4, 5, 1}, {5, 1, 5, 5, 1}, {6, 1, 6, 5, 1}, {7, 3, 7, 5, 3}, // below Bottom
		{8, 4, 7, 5, 3}, {9, 0, 7, 5, 0}, {0, 4, 0, 2, 3},
		{-1, 0, 0, 1, 0}, {-2, 1, 0, 0, 1}, {-3, 1, 0, 0, 1}, {0, -1, 0, 2, 0}, {-1, -1, 0, 1, 0}, {2, -7, 2, 4, 0},
		{far, 0, 7, 5, 0}, {-far, 0, 0, 0, 0}, {0, far, 0, 2, 3}, {0, -far, 0, 2, 0},
		{far, far, 7, 5, 3}, {-far, -far, 0, 0, 0}, {far, -far, 7, 5, 0}, {-far, far, 0, 0, 3},
	} {
		for _, s := range []api.Screen{some(), placed(0, 0), placed(7, 3), placed(5, 1)} {
			check(t, cursor.Go(s, q.r, q.c), at(s, q.wantOrigin, q.wantCol), q, "with Origin")
			s.Origin = false
			check(t, cursor.Go(s, q.r, q.c), at(s, q.wantRow, q.wantCol), q)
		}
	}
}

// P12.4: with Origin, where a margin is the screen's end.
func TestGoMargins(t *testing.T) {
	for _, q := range []struct{ top, bottom, r, want int }{
		{0, 7, 0, 0}, {0, 7, 7, 7}, {0, 7, 8, 7}, {0, 7, -1, 0},
		{0, 1, 0, 0}, {0, 1, 1, 1}, {0, 1, 2, 1}, {0, 1, 7, 1}, {0, 1, -1, 0},
		{6, 7, 0, 6}, {6, 7, 1, 7}, {6, 7, 2, 7}, {6, 7, -1, 5}, {6, 7, -6, 0}, {6, 7, -7, 0},
		{3, 4, 0, 3}, {3, 4, 1, 4}, {3, 4, 2, 4}, {3, 4, far, 4}, {3, 4, -far, 0},
	} {
		s := some()
		s.Top, s.Bottom = q.top, q.bottom
		check(t, cursor.Go(s, q.r, 2), at(s, q.want, 2), q)
	}
}

// P12.4: Home by hand.
func TestHome(t *testing.T) {
	for _, q := range [][2]int{{2, 5}, {0, 7}, {0, 1}, {1, 2}, {6, 7}} {
		for _, s := range []api.Screen{some(), placed(0, 0), placed(7, 3), placed(6, 1)} {
			s.Top, s.Bottom = q[0], q[1]
			check(t, cursor.Home(s), at(s, q[0], 0), q, "with Origin")
			s.Origin = false
			check(t, cursor.Home(s), at(s, 0, 0), q)
		}
	}
	s := screen.New(1, 3)
	s.Col, s.Pending = 2, true
	for _, origin := range []bool{false, true} {
		s.Origin = origin
		check(t, cursor.Home(s), at(s, 0, 0), "of one row")
	}
}

// P12.5: Save by hand; all else stays, what is pending, too.
func TestSave(t *testing.T) {
	got := cursor.Save(some())
	want := some()
	want.Saved = api.Saved{Row: 3, Col: 3, Pen: penOf(3, -1, api.Italic), Sets: [2]byte{'0', 'B'}, Shift: 1, Origin: true}
	check(t, got, want, "some")
	if !got.Pending {
		t.Error("nothing pending")
	}
	got = cursor.Save(screen.New(2, 3))
	check(t, got, screen.New(2, 3), "new")
}

// part is one thing that is saved: where it stands of a screen, and of what is
// saved.
type part struct {
	name       string
	set, saved func(s *api.Screen)
}

func parts() []part {
	return []part{
		{"Row", func(s *api.Screen) { s.Row = 0 }, func(s *api.Screen) { s.Saved.Row = 0 }},
		{"Row, the last", func(s *api.Screen) { s.Row = 7 }, func(s *api.Screen) { s.Saved.Row = 7 }},
		{"Col", func(s *api.Screen) { s.Col = 0 }, func(s *api.Screen) { s.Saved.Col = 0 }},
		{"Col, the last", func(s *api.Screen) { s.Col = 3 }, func(s *api.Screen) { s.Saved.Col = 3 }},
		{"Fore", func(s *api.Screen) { s.Pen.Fore = 200 }, func(s *api.Screen) { s.Saved.Pen.Fore = 200 }},
		{"Back", func(s *api.Screen) { s.Pen.Back = api.Direct }, func(s *api.Screen) { s.Saved.Pen.Back = api.Direct }},
		{"Flags", func(s *api.Screen) { s.Pen.Flags = api.Strike }, func(s *api.Screen) { s.Saved.Pen.Flags = api.Strike }},
		{"G0 B", func(s *api.Screen) { s.Sets[0] = 'B' }, func(s *api.Screen) { s.Saved.Sets[0] = 'B' }},
		{"G0 0", func(s *api.Screen) { s.Sets[0] = '0' }, func(s *api.Screen) { s.Saved.Sets[0] = '0' }},
		{"G1 B", func(s *api.Screen) { s.Sets[1] = 'B' }, func(s *api.Screen) { s.Saved.Sets[1] = 'B' }},
		{"G1 0", func(s *api.Screen) { s.Sets[1] = '0' }, func(s *api.Screen) { s.Saved.Sets[1] = '0' }},
		{"Shift 0", func(s *api.Screen) { s.Shift = 0 }, func(s *api.Screen) { s.Saved.Shift = 0 }},
		{"Shift 1", func(s *api.Screen) { s.Shift = 1 }, func(s *api.Screen) { s.Saved.Shift = 1 }},
		{"Origin", func(s *api.Screen) { s.Origin = true }, func(s *api.Screen) { s.Saved.Origin = true }},
		{"no Origin", func(s *api.Screen) { s.Origin = false }, func(s *api.Screen) { s.Saved.Origin = false }},
	}
}

// P12.5: each thing alone: it is saved, and nothing but that is other than without
// it; it is what is restored.
func TestSaveAndRestoreEach(t *testing.T) {
	for _, q := range parts() {
		s := placed(3, 1)
		want := changed(cursor.Save(s), func(s *api.Screen) { q.set(s); q.saved(s) })
		check(t, cursor.Save(changed(s, q.set)), want, "saved", q.name)
		want = changed(cursor.Restore(s), func(s *api.Screen) { q.set(s); q.saved(s) })
		check(t, cursor.Restore(changed(s, q.saved)), want, "restored", q.name)
		check(t, cursor.Restore(changed(s, q.set)), cursor.Restore(s), "not kept", q.name)
	}
}

// P12.5: Restore by hand; nothing is pending, and what is saved stays saved.
func TestRestore(t *testing.T) {
	want := some()
	want.Row, want.Col, want.Pending, want.Pen = 6, 2, false, penOf(-1, 255, 255)
	want.Sets, want.Shift, want.Origin = [2]byte{'B', '0'}, 0, false
	check(t, cursor.Restore(some()), want, "once")
	check(t, cursor.Restore(cursor.Restore(some())), want, "twice")
}

// P12.5: the saved place is one of the screen, not one that Origin counts from Top,
// be it set or saved; it may lie beyond the margins, and be the last one.
func TestRestorePlaces(t *testing.T) {
	for i := range 64 {
		s := some()
		s.Saved.Row, s.Saved.Col, s.Saved.Origin = i/2/4, i/2%4, i%2 == 0
		for _, s.Origin = range []bool{false, true} {
			got := cursor.Restore(s)
			if got.Row != i/2/4 || got.Col != i/2%4 || got.Pending || got.Origin != (i%2 == 0) {
				t.Error(i, short(got))
			}
			check(t, got, restoreBy(s), i)
		}
	}
}

// P12.5: what was never saved: the place, pen, sets and shift of a new screen.
func TestRestoreOfNothingSaved(t *testing.T) {
	s := screen.New(3, 4)
	want := screen.New(3, 4)
	for _, x := range []*api.Screen{&s, &want} {
		x.Grid.Cells[5], x.Top, x.Tabs, x.Wrap, x.Shown, x.Keys, x.Pad = single('x', red), 1, 5, false, false, true, true
	}
	s.Row, s.Col, s.Pen, s.Sets, s.Shift, s.Origin = 2, 3, red, [2]byte{'0', '0'}, 1, true
	check(t, cursor.Restore(s), want, "nothing saved")
}

// P12.5: saved twice, it is the later that counts.
func TestSaveTwice(t *testing.T) {
	s := cursor.Save(some())
	check(t, cursor.Save(s), s, "the same again")
	later := changed(s, func(s *api.Screen) {
		s.Row, s.Col, s.Pending, s.Pen, s.Sets, s.Shift, s.Origin = 7, 1, false, green, [2]byte{'0', '0'}, 0, false
	})
	saved := cursor.Save(later)
	if saved.Saved != (api.Saved{Row: 7, Col: 1, Pen: green, Sets: [2]byte{'0', '0'}}) {
		t.Error(short(saved))
	}
	check(t, cursor.Restore(cursor.At(saved, 0, 0)), saved, "the later")
}

// P12.5: there and back: with something pending at Save, and at Restore, nothing
// is pending behind that.
func TestSaveAndRestore(t *testing.T) {
	s := cursor.Save(some())
	moved := changed(s, func(s *api.Screen) {
		s.Row, s.Col, s.Pending, s.Pen, s.Sets, s.Shift, s.Origin = 5, 3, true, plain, [2]byte{'B', 'B'}, 0, false
	})
	want := s
	want.Pending = false
	check(t, cursor.Restore(moved), want, "moved")
	check(t, cursor.Restore(s), want, "at once")

	fed := cursor.Restore(cursor.Feed(cursor.At(s, 5, 0)))
	if fed.Row != 3 || fed.Col != 3 || grid.Text(fed.Grid, 5) != "    " || fed.Top != 2 || fed.Bottom != 5 {
		t.Error(short(fed))
	}
}

// P12.1 to P12.5: small screens of all margins, from each place, to each place and
// about, and by all numbers of rows.
func TestAll(t *testing.T) {
	for _, s := range smallScreens(rand.New(rand.NewSource(122))) {
		checkCalls(t, s, fixed()...)
		for n := range s.Grid.Rows + 2 {
			checkCalls(t, s, steps(n)...)
		}
		checkCalls(t, s, steps(api.MaxParam)...)
		for r := -s.Grid.Rows - 1; r <= s.Grid.Rows+1; r++ {
			for c := -2; c <= s.Grid.Cols+1; c++ {
				checkCalls(t, s, jumps(r, c)...)
			}
		}
	}
}

// P12.1 to P12.5: calls at random, each of the answer of the one ahead, of screens
// up to the limits; all answers are right.
func TestAtRandom(t *testing.T) {
	rnd := rand.New(rand.NewSource(123))
	for _, size := range [][2]int{{1, 1}, {1, 9}, {2, 1}, {2, 2}, {3, 7}, {7, 3}, {24, 20}, {40, 60}} {
		for range 4 {
			s := rightScreen(rnd, size[0], size[1])
			for range 60 {
				n := pick(rnd, 0, 1, 2, 5, rnd.Intn(50), api.MaxParam-1, api.MaxParam)
				to := jumps(pick(rnd, numbersTo(size[0])...), pick(rnd, numbersTo(size[1])...))
				q := pick(rnd, slices.Concat(fixed(), fixed(), steps(n), to)...)
				checkCalls(t, s, q)
				s = q.of(s)
				if rnd.Intn(5) == 0 {
					s.Col, s.Wrap, s.Pending, s.Pen = size[1]-1, true, true, rightPen(rnd)
				}
			}
		}
	}
}

// roomy is a copy of s with room behind its cells that isn't zero.
func roomy(s api.Screen) api.Screen {
	n := len(s.Grid.Cells)
	s.Grid.Cells = append(own(s).Grid.Cells, single(71, odd), single(72, red), single(73, green))[:n]
	return s
}

func full(s api.Screen) []api.Cell { return s.Grid.Cells[:cap(s.Grid.Cells)] }

func fill(l []api.Cell) {
	for i := range l {
		l[i] = api.Cell{Rune: 99, Kind: 98, Pen: penOf(97, 96, 95)}
	}
}

// calls are all calls, with something to do and with nothing to do.
func calls() []call {
	all := fixed()
	for _, n := range []int{0, 1, 2, api.MaxParam, -1, math.MinInt, math.MaxInt} {
		all = append(all, steps(n)...)
	}
	for _, q := range [][2]int{{0, 0}, {3, 3}, {2, 1}, {-1, -1}, {9, 9}, {far, -far}, {math.MinInt, math.MaxInt}} {
		all = append(all, jumps(q[0], q[1])...)
	}
	return all
}

// someScreens are right ones, with rows that move and without, and some that
// aren't.
func someScreens() []api.Screen {
	ss := []api.Screen{some(), placed(5, 3), placed(2, 0), placed(7, 3), screen.New(1, 1), screen.New(3, 5), {}, {Grid: api.Grid{Cells: []api.Cell{}}}}
	r := rand.New(rand.NewSource(124))
	for range 400 {
		ss = append(ss, anyScreen(r))
	}
	return ss
}

// R2: what is handed in stays, its cells and their spare room too.
func TestHandedInStays(t *testing.T) {
	for _, s := range someScreens() {
		s = roomy(s)
		was, cells := own(s), slices.Clone(full(s))
		for _, q := range calls() {
			q.of(s)
			if !alike(s, was) || !slices.Equal(full(s), cells) {
				t.Fatalf("%s: %s", q.name, short(s))
			}
		}
	}
}

// R2: an answer is nobody else's: it is written full, and what was handed in,
// what came ahead and what comes later stays; so does an answer when what was
// handed in is written full. Only what is as it was may share its cells.
func TestAnswersAreNew(t *testing.T) {
	for _, given := range someScreens() {
		for _, q := range calls() {
			s := roomy(given)
			was := slices.Clone(full(s))
			ahead := q.of(s)
			if alike(ahead, s) {
				continue
			}
			want := own(ahead)
			fill(full(q.of(s)))
			if !slices.Equal(full(s), was) || !alike(ahead, want) || !alike(q.of(s), want) {
				t.Fatalf("%s: %s", q.name, short(s))
			}
			fill(full(s))
			if !alike(ahead, want) {
				t.Fatalf("%s: kept: %s", q.name, short(given))
			}
		}
	}
}

// R1: numbers that nothing is promised of: the call ends, and of a right screen
// the answer is right.
func TestNumbersBeyond(t *testing.T) {
	for _, s := range []api.Screen{some(), placed(0, 0), placed(7, 3), placed(2, 1), placed(5, 1), screen.New(1, 1), screen.New(40, 60)} {
		for _, n := range beyond() {
			for _, m := range beyond() {
				for _, q := range slices.Concat(steps(n), jumps(n, m)) {
					if got := q.of(s); !screen.Right(got) {
						t.Fatalf("%s: %s: %s", q.name, short(s), short(got))
					}
				}
			}
		}
	}
}

// R1: screens that aren't right, one thing wrong or more, of which nothing is
// promised but that all ends.
func TestWrongScreens(t *testing.T) {
	wrong := map[string]func(s *api.Screen){
		"no cells":           func(s *api.Screen) { s.Grid.Cells = nil },
		"a cell too few":     func(s *api.Screen) { s.Grid.Cells = s.Grid.Cells[:min(31, len(s.Grid.Cells))] },
		"no rows":            func(s *api.Screen) { s.Grid.Rows = 0 },
		"rows below nought":  func(s *api.Screen) { s.Grid.Rows, s.Grid.Cols = math.MinInt, math.MinInt },
		"many rows":          func(s *api.Screen) { s.Grid.Rows, s.Grid.Cols = math.MaxInt, math.MaxInt },
		"margins round":      func(s *api.Screen) { s.Top, s.Bottom = 5, 2 },
		"margins beyond":     func(s *api.Screen) { s.Top, s.Bottom = 8, 9 },
		"Bottom beyond":      func(s *api.Screen) { s.Bottom = 8 },
		"margins below":      func(s *api.Screen) { s.Top, s.Bottom = -2, -1 },
		"margins far off":    func(s *api.Screen) { s.Top, s.Bottom = math.MinInt, math.MaxInt },
		"margins far round":  func(s *api.Screen) { s.Top, s.Bottom = math.MaxInt, math.MinInt },
		"one row of margins": func(s *api.Screen) { s.Top, s.Bottom = 3, 3 },
		"cursor below":       func(s *api.Screen) { s.Row, s.Col = 8, 4 },
		"cursor above":       func(s *api.Screen) { s.Row, s.Col = -1, -1 },
		"cursor far":         func(s *api.Screen) { s.Row, s.Col = math.MaxInt, math.MinInt },
		"cursor far, round":  func(s *api.Screen) { s.Row, s.Col = math.MinInt, math.MaxInt },
		"saved far":          func(s *api.Screen) { s.Saved.Row, s.Saved.Col = math.MaxInt, math.MinInt },
		"pen":                func(s *api.Screen) { s.Pen = odd },
		"sets":               func(s *api.Screen) { s.Sets, s.Shift = [2]byte{}, -7 },
		"nothing":            func(s *api.Screen) { *s = api.Screen{} },
	}
	for name, one := range wrong {
		for other, two := range wrong {
			s := changed(some(), func(s *api.Screen) { one(s); two(s) })
			for _, row := range []int{s.Row, s.Top, s.Bottom} {
				s.Row = row
				for _, q := range calls() {
					ends(t, fmt.Sprint(name, ", ", other), q, s)
				}
			}
		}
	}
}

func ends(t *testing.T, what string, q call, s api.Screen) {
	t.Helper()
	defer func() {
		if x := recover(); x != nil {
			t.Fatalf("%s: %s: %v", what, q.name, x)
		}
	}()
	q.of(s)
}

// R1: any numbers at all, in all places.
func TestAnyNumbers(t *testing.T) {
	r := rand.New(rand.NewSource(125))
	for range 6000 {
		s := anyScreen(r)
		for _, q := range slices.Concat(fixed(), steps(pick(r, beyond()...)), jumps(pick(r, beyond()...), pick(r, beyond()...))) {
			ends(t, short(s), q, s)
		}
	}
}

// The chapter's runs.
func TestRuns(t *testing.T) {
	s := screen.New(3, 2)
	for r, x := range "abc" {
		s.Grid = grid.Put(s.Grid, r, 0, x, plain)
	}
	s.Top, s.Bottom, s.Row = 0, 1, 1
	for _, q := range []struct {
		row  int
		rows [3]string
	}{{1, [3]string{"b ", "  ", "c "}}, {2, [3]string{"a ", "b ", "c "}}} {
		s.Row = q.row
		got := cursor.Feed(s)
		if got.Row != q.row {
			t.Error(q, got.Row)
		}
		for r, want := range q.rows {
			if text := grid.Text(got.Grid, r); text != want {
				t.Errorf("%d: %d: %q", q.row, r, text)
			}
		}
	}
}
