package modes_test

import (
	"fmt"
	"math"
	"math/rand"
	"slices"
	"testing"

	"linguist/api"
	"linguist/modes"
	"linguist/screen"
)

// check holds two screens against each other; what was asked is told only if they
// differ, since telling takes longer than asking.
func check(t *testing.T, got, want api.Screen, asked ...any) {
	t.Helper()
	if !alike(got, want) {
		t.Fatalf("%v:\n%s, not\n%s", asked, short(got), short(want))
	}
}

// with is some with one change, or more.
func with(changes ...func(s *api.Screen)) api.Screen {
	s := some()
	for _, change := range changes {
		change(&s)
	}
	return s
}

// combos are all rows of four bits.
func combos() [][4]bool {
	var all [][4]bool
	for i := range 16 {
		all = append(all, [4]bool{i&1 != 0, i&2 != 0, i&4 != 0, i&8 != 0})
	}
	return all
}

func TestSomeIsRight(t *testing.T) {
	if !screen.Right(some()) {
		t.Error(short(some()))
	}
}

// P13.1: All, each time.
func TestAll(t *testing.T) {
	for range 3 {
		if got := modes.All(); !slices.Equal(got, []int{1, 6, 7, 25}) {
			t.Fatal(got)
		}
	}
}

// P13.1: Known of the modes, and of no number else.
func TestKnown(t *testing.T) {
	for _, n := range []int{1, 6, 7, 25} {
		if !modes.Known(n) {
			t.Error(n)
		}
	}
	for _, n := range beyond() {
		if modes.Known(n) {
			t.Error(n)
		}
	}
	for n := -1000; n <= api.MaxParam+1000; n++ {
		if got := modes.Known(n); got != (n == 1 || n == 6 || n == 7 || n == 25) {
			t.Error(n, got)
		}
	}
}

// P13.1: All and Known tell of the same numbers.
func TestAllAreKnown(t *testing.T) {
	var got []int
	for n := -300; n <= 300; n++ {
		if modes.Known(n) {
			got = append(got, n)
		}
	}
	if !slices.Equal(got, modes.All()) {
		t.Error(got)
	}
}

// P13.1, P13.3: 1 by hand: Keys alone; what is pending stays, and the cursor.
func TestSetKeys(t *testing.T) {
	on := func(s *api.Screen) { s.Keys = true }
	check(t, modes.Set(some(), 1, true), with(on), "on")
	check(t, modes.Set(with(on), 1, true), with(on), "on, twice")
	check(t, modes.Set(with(on), 1, false), some(), "off")
	check(t, modes.Set(some(), 1, false), some(), "off, twice")
}

// P13.1, P13.3: 25 by hand: Shown alone; what is pending stays, and the cursor.
func TestSetShown(t *testing.T) {
	on := func(s *api.Screen) { s.Shown = true }
	check(t, modes.Set(some(), 25, true), with(on), "on")
	check(t, modes.Set(with(on), 25, true), with(on), "on, twice")
	check(t, modes.Set(with(on), 25, false), some(), "off")
	check(t, modes.Set(some(), 25, false), some(), "off, twice")
}

// P13.1, P13.3: 7 by hand: off, nothing is pending, and the cursor stays; on, what
// is pending stays, and nothing comes to be.
func TestSetWrap(t *testing.T) {
	still := func(s *api.Screen) { s.Pending = false }
	off := func(s *api.Screen) { s.Wrap = false }
	check(t, modes.Set(some(), 7, true), some(), "on, from on, pending")
	check(t, modes.Set(with(still), 7, true), with(still), "on, from on")
	check(t, modes.Set(some(), 7, false), with(still, off), "off, from on, pending")
	check(t, modes.Set(with(still), 7, false), with(still, off), "off, from on")
	check(t, modes.Set(with(still, off), 7, true), with(still), "on, from off")
	check(t, modes.Set(with(still, off), 7, false), with(still, off), "off, from off")
	check(t, modes.Set(modes.Set(some(), 7, false), 7, true), with(still), "off and on")
}

// P13.1, P13.3: 6 by hand: the cursor is at home, which hangs on the new Origin,
// not on the one ahead; nothing is pending; margins and the saved cursor stay.
func TestSetOrigin(t *testing.T) {
	for _, q := range []struct{ top, bottom int }{{1, 3}, {0, 4}, {0, 1}, {3, 4}, {2, 3}} {
		for _, was := range []bool{false, true} {
			for i := range 20 {
				start := with(func(s *api.Screen) {
					s.Top, s.Bottom, s.Origin, s.Row, s.Col = q.top, q.bottom, was, i/4, i%4
					s.Pending = s.Col == 3
				})
				want := start
				want.Pending, want.Row, want.Col, want.Origin = false, q.top, 0, true
				check(t, modes.Set(start, 6, true), want, q, was, i, "on")
				check(t, modes.Set(modes.Set(start, 6, true), 6, true), want, q, was, i, "on, twice")
				want.Row, want.Origin = 0, false
				check(t, modes.Set(start, 6, false), want, q, was, i, "off")
				check(t, modes.Set(modes.Set(start, 6, false), 6, false), want, q, was, i, "off, twice")
				check(t, modes.Set(modes.Set(start, 6, true), 6, false), want, q, was, i, "on and off")
			}
		}
	}
}

// P13.1: 6 of one row, and of one cell, where something can be pending at home.
func TestSetOriginOfOneRow(t *testing.T) {
	for cols := 1; cols <= 3; cols++ {
		for _, on := range []bool{false, true} {
			s := screen.New(1, cols)
			s.Col, s.Pending = cols-1, true
			want := screen.New(1, cols)
			want.Origin = on
			check(t, modes.Set(s, 6, on), want, cols, on)
		}
	}
}

// P13.1: others: the screen stays, whatever is on in it.
func TestSetOthers(t *testing.T) {
	for _, c := range combos() {
		s := withModes(some(), c)
		s.Pending = s.Wrap
		for _, n := range beyond() {
			check(t, modes.Set(s, n, true), s, n, c)
			check(t, modes.Set(s, n, false), s, n, c)
		}
	}
	for n := range api.MaxParam + 1 {
		if !slices.Contains(numbers(), n) {
			check(t, modes.Set(some(), n, n%2 == 0), some(), n)
		}
	}
}

// P13.2: Report by hand, of what only one is set, of what all but one are, and of
// a new screen.
func TestReport(t *testing.T) {
	for _, q := range []struct {
		on   [4]bool
		want [4]int
	}{
		{[4]bool{}, [4]int{2, 2, 2, 2}},
		{[4]bool{true, false, false, false}, [4]int{1, 2, 2, 2}},
		{[4]bool{false, true, false, false}, [4]int{2, 1, 2, 2}},
		{[4]bool{false, false, true, false}, [4]int{2, 2, 1, 2}},
		{[4]bool{false, false, false, true}, [4]int{2, 2, 2, 1}},
		{[4]bool{false, true, true, true}, [4]int{2, 1, 1, 1}},
		{[4]bool{true, false, true, true}, [4]int{1, 2, 1, 1}},
		{[4]bool{true, true, false, true}, [4]int{1, 1, 2, 1}},
		{[4]bool{true, true, true, false}, [4]int{1, 1, 1, 2}},
		{[4]bool{true, true, true, true}, [4]int{1, 1, 1, 1}},
	} {
		s := withModes(some(), q.on)
		s.Pending = s.Wrap
		for i, n := range []int{1, 6, 7, 25} {
			if got := modes.Report(s, n); got != q.want[i] {
				t.Error(q, n, got)
			}
		}
	}
	s := screen.New(2, 2)
	for n, want := range map[int]int{1: 2, 6: 2, 7: 1, 25: 1} {
		if got := modes.Report(s, n); got != want {
			t.Error(n, got)
		}
	}
}

// P13.2: what isn't Known is 0, whatever is set; neither Pad, nor what is pending,
// nor the saved Origin counts.
func TestReportOthers(t *testing.T) {
	for _, c := range combos() {
		s := withModes(some(), c)
		s.Pending = s.Wrap
		for _, n := range beyond() {
			if got := modes.Report(s, n); got != 0 {
				t.Error(c, n, got)
			}
		}
		for n := -300; n <= 3000; n++ {
			if got := modes.Report(s, n); got != reportBy(s, n) || (got == 0) == modes.Known(n) {
				t.Error(c, n, got)
			}
		}
		other := s
		other.Pad, other.Pending, other.Saved.Origin, other.Shift = !s.Pad, false, !s.Saved.Origin, 0
		for _, n := range numbers() {
			if got, want := modes.Report(other, n), modes.Report(s, n); got != want {
				t.Error(c, n, got)
			}
		}
	}
}

// P13.3: what is set is reported, of the other modes what was; nothing else but
// the cursor's place changes.
func TestSetIsReported(t *testing.T) {
	for _, c := range combos() {
		for _, n := range numbers() {
			for _, on := range []bool{false, true} {
				s := withModes(some(), c)
				s.Pending = s.Wrap
				got := modes.Set(s, n, on)
				for _, m := range numbers() {
					want := modes.Report(s, m)
					switch {
					case m == n && on:
						want = 1
					case m == n:
						want = 2
					}
					if told := modes.Report(got, m); told != want {
						t.Error(c, n, on, m, told)
					}
				}
				back := withModes(got, c)
				if n == 6 {
					back.Row, back.Col, back.Pending = s.Row, s.Col, s.Pending
				}
				if n == 7 && !on {
					back.Pending = s.Pending
				}
				check(t, back, s, c, n, on)
			}
		}
	}
}

// P13.1, P13.3: modes one behind the other, in any order: all runs of three.
func TestSetInAnyOrder(t *testing.T) {
	type step struct {
		n  int
		on bool
	}
	var steps []step
	for _, n := range []int{1, 6, 7, 25, 0, 4} {
		steps = append(steps, step{n, false}, step{n, true})
	}
	for _, c := range combos() {
		start := withModes(some(), c)
		start.Pending = start.Wrap
		for i := range len(steps) * len(steps) * len(steps) {
			three := []step{steps[i%12], steps[i/12%12], steps[i/144]}
			got, want := start, start
			for _, q := range three {
				got, want = modes.Set(got, q.n, q.on), setBy(want, q.n, q.on)
			}
			check(t, got, want, c, three)
		}
	}
}

// P13.3: the order counts only for the cursor's place: modes that are set in any
// order are all on.
func TestSetAll(t *testing.T) {
	for _, order := range [][4]int{{1, 6, 7, 25}, {25, 7, 6, 1}, {7, 25, 1, 6}, {6, 1, 25, 7}} {
		for _, on := range []bool{false, true} {
			s := some()
			for _, n := range order {
				s = modes.Set(s, n, on)
			}
			if modesOf(s) != [4]bool{on, on, on, on} {
				t.Error(order, on, modesOf(s))
			}
		}
	}
}

// P13.1 to P13.3: right screens at random, up to the limits; all answers are right.
func TestAtRandom(t *testing.T) {
	r := rand.New(rand.NewSource(131))
	for _, size := range [][2]int{{1, 1}, {1, 9}, {2, 1}, {2, 2}, {3, 7}, {7, 3}, {24, 20}, {40, 60}} {
		for range 6 {
			s := rightScreen(r, size[0], size[1])
			for range 50 {
				n, on := pick(r, 1, 6, 7, 25, 1, 6, 7, 25, pick(r, beyond()...)), flip(r)
				got := modes.Set(s, n, on)
				check(t, got, setBy(s, n, on), n, on, short(s))
				if !screen.Right(got) || modes.Report(got, n) != reportBy(got, n) {
					t.Fatal(n, on, short(s), short(got))
				}
				got.Row, got.Col = r.Intn(size[0]), pick(r, 0, size[1]-1)
				got.Pending = false
				s = awaiting(got, flip(r))
			}
		}
	}
}

// roomy is a copy of s with room behind its cells that isn't zero.
func roomy(s api.Screen) api.Screen {
	n := len(s.Grid.Cells)
	s.Grid.Cells = append(own(s).Grid.Cells, single(71, odd), single(72, red), single(73, plain))[:n]
	return s
}

func full[T any](l []T) []T { return l[:cap(l)] }

func fill(l []api.Cell) {
	for i := range l {
		l[i] = api.Cell{Rune: 99, Kind: 98, Pen: penOf(97, 96, 95)}
	}
}

// someScreens are right ones, and some that aren't.
func someScreens() []api.Screen {
	ss := []api.Screen{some(), screen.New(1, 1), screen.New(3, 5), {}, {Grid: api.Grid{Cells: []api.Cell{}}}}
	r := rand.New(rand.NewSource(132))
	for range 400 {
		ss = append(ss, anyScreen(r))
	}
	return ss
}

// R2: what All answers is new each time: written full, its spare room too, it
// changes neither what came ahead nor what comes later, nor what is Known.
func TestAllIsNew(t *testing.T) {
	ahead := modes.All()
	other := full(modes.All())
	for i := range other {
		other[i] = 99
	}
	if want := []int{1, 6, 7, 25}; !slices.Equal(ahead, want) || !slices.Equal(modes.All(), want) {
		t.Error(ahead, modes.All())
	}
	if !modes.Known(1) || !modes.Known(25) || modes.Known(99) || modes.Report(some(), 7) != 1 {
		t.Error("another mode is known")
	}
}

// R2: what is handed in stays, its cells and their spare room too.
func TestHandedInStays(t *testing.T) {
	for _, s := range someScreens() {
		s = roomy(s)
		was, cells := own(s), slices.Clone(full(s.Grid.Cells))
		for _, n := range append(beyond(), numbers()...) {
			modes.Set(s, n, true)
			modes.Set(s, n, false)
			modes.Report(s, n)
			if !alike(s, was) || !slices.Equal(full(s.Grid.Cells), cells) {
				t.Fatal(n, short(s))
			}
		}
	}
}

// R2: an answer is nobody else's: it is written full, and what was handed in,
// what came ahead and what comes later stays; so does an answer when what was
// handed in is written full. Only what is as it was may share its cells.
func TestAnswersAreNew(t *testing.T) {
	for _, given := range someScreens() {
		for _, n := range numbers() {
			for _, on := range []bool{false, true} {
				s := roomy(given)
				was := slices.Clone(full(s.Grid.Cells))
				ahead := modes.Set(s, n, on)
				if alike(ahead, s) {
					continue
				}
				want := own(ahead)
				fill(full(modes.Set(s, n, on).Grid.Cells))
				if !slices.Equal(full(s.Grid.Cells), was) || !alike(ahead, want) || !alike(modes.Set(s, n, on), want) {
					t.Fatal(n, on, short(s))
				}
				fill(full(s.Grid.Cells))
				if !alike(ahead, want) {
					t.Fatal("kept", n, on, short(given))
				}
			}
		}
	}
}

// ends calls all that there is with s.
func ends(t *testing.T, what string, s api.Screen) {
	t.Helper()
	defer func() {
		if x := recover(); x != nil {
			t.Fatalf("%s: %v: %s", what, x, short(s))
		}
	}()
	for _, n := range append(beyond(), numbers()...) {
		modes.Set(s, n, true)
		modes.Set(s, n, false)
		modes.Report(s, n)
	}
}

// R1: screens that aren't right, one thing wrong or two, of which nothing is
// promised but that all ends.
func TestWrongScreens(t *testing.T) {
	wrong := map[string]func(s *api.Screen){
		"no cells":          func(s *api.Screen) { s.Grid.Cells = nil },
		"a cell too few":    func(s *api.Screen) { s.Grid.Cells = s.Grid.Cells[:min(19, len(s.Grid.Cells))] },
		"no rows":           func(s *api.Screen) { s.Grid.Rows = 0 },
		"rows below nought": func(s *api.Screen) { s.Grid.Rows, s.Grid.Cols = math.MinInt, math.MinInt },
		"many rows":         func(s *api.Screen) { s.Grid.Rows, s.Grid.Cols = math.MaxInt, math.MaxInt },
		"margins round":     func(s *api.Screen) { s.Top, s.Bottom = 3, 1 },
		"margins beyond":    func(s *api.Screen) { s.Top, s.Bottom = 5, 6 },
		"margins below":     func(s *api.Screen) { s.Top, s.Bottom = -2, -1 },
		"margins far off":   func(s *api.Screen) { s.Top, s.Bottom = math.MinInt, math.MaxInt },
		"margins far round": func(s *api.Screen) { s.Top, s.Bottom = math.MaxInt, math.MinInt },
		"cursor below":      func(s *api.Screen) { s.Row, s.Col = 5, 4 },
		"cursor above":      func(s *api.Screen) { s.Row, s.Col = -1, -1 },
		"cursor far":        func(s *api.Screen) { s.Row, s.Col = math.MaxInt, math.MinInt },
		"saved far":         func(s *api.Screen) { s.Saved.Row, s.Saved.Col = math.MinInt, math.MaxInt },
		"pending elsewhere": func(s *api.Screen) { s.Col, s.Wrap, s.Pending = 0, false, true },
		"pen":               func(s *api.Screen) { s.Pen = odd },
		"sets":              func(s *api.Screen) { s.Sets, s.Shift = [2]byte{}, -7 },
		"nothing":           func(s *api.Screen) { *s = api.Screen{} },
	}
	for name, one := range wrong {
		for other, two := range wrong {
			for _, c := range combos() {
				ends(t, fmt.Sprint(name, ", ", other), withModes(with(one, two), c))
			}
		}
	}
}

// R1: any numbers at all, in all places.
func TestAnyNumbers(t *testing.T) {
	r := rand.New(rand.NewSource(133))
	for range 6000 {
		ends(t, "any numbers", anyScreen(r))
	}
}

// The chapter's runs.
func TestRuns(t *testing.T) {
	s := modes.Set(screen.New(2, 3), 25, false)
	if s.Shown || modes.Report(s, 25) != 2 || modes.Report(s, 9) != 0 {
		t.Error(short(s), modes.Report(s, 25), modes.Report(s, 9))
	}
}
