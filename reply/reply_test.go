package reply_test

import (
	"fmt"
	"math"
	"math/rand"
	"slices"
	"strings"
	"testing"

	"linguist/api"
	"linguist/modes"
	"linguist/parse"
	"linguist/reply"
	"linguist/screen"
	"linguist/seq"
	"linguist/source"
)

func check(t *testing.T, s api.Screen, e api.Event, want string) {
	t.Helper()
	if got := string(reply.To(s, e)); got != want {
		t.Fatalf("%+v: %q, not %q; %s", e, got, want, short(s))
	}
}

// checkAll holds All against a screen and a text.
func checkAll(t *testing.T, s api.Screen, es []api.Event, want api.Screen, text string) {
	t.Helper()
	got, b := reply.All(s, es...)
	if !alike(got, want) || string(b) != text {
		t.Fatalf("%+v: %q, not %q;\n%s, not\n%s", es, b, text, short(got), short(want))
	}
}

// placed is some with the cursor at row r, column c.
func placed(r, c int) api.Screen {
	s := some()
	s.Row, s.Col, s.Pending = r, c, c == 4
	return s
}

// screens are right ones of many kinds.
func screens() []api.Screen {
	all := []api.Screen{some(), placed(0, 0), placed(5, 4), screen.New(1, 1), screen.New(2, 3), screen.New(40, 60)}
	r := rand.New(rand.NewSource(151))
	for range 20 {
		all = append(all, rightScreen(r, 1+r.Intn(api.MaxRows), 1+r.Intn(api.MaxCols)))
	}
	return all
}

func TestScreensAreRight(t *testing.T) {
	for _, s := range screens() {
		if !screen.Right(s) {
			t.Error(short(s))
		}
	}
}

// P15.1: n of 5: it is well, whatever the screen is; n of 6: where it is; others
// are not answered: none, 0, 7, MaxParam, one left out; the first parameter alone
// counts.
func TestStatus(t *testing.T) {
	for _, s := range screens() {
		where := fmt.Sprintf("\x1b[%d;%dR", rowBy(s), s.Col+1)
		for _, q := range []struct {
			params []int
			want   string
		}{
			{nil, ""}, {[]int{}, ""}, {[]int{0}, ""}, {[]int{-1}, ""}, {[]int{4}, ""}, {[]int{5}, "\x1b[0n"}, {[]int{6}, where}, {[]int{7}, ""}, {[]int{api.MaxParam}, ""},
			{[]int{5, 6}, "\x1b[0n"}, {[]int{6, 5}, where}, {[]int{5, -1, 7}, "\x1b[0n"}, {[]int{6, 0}, where}, {[]int{-1, 5}, ""}, {[]int{-1, 6}, ""},
			{[]int{0, 5}, ""}, {[]int{7, 6}, ""}, {[]int{56}, ""}, {[]int{1, 5, 6}, ""}, {[]int{256 + 5}, ""}, {[]int{256 + 6}, ""},
		} {
			check(t, s, csi('n', q.params...), q.want)
		}
	}
}

// P15.1: n with Priv, with Inter, with both: none.
func TestStatusOfOthers(t *testing.T) {
	for b := 1; b < 256; b++ {
		for n := range 9 {
			check(t, some(), csiOf(byte(b), 0, 'n', n), "")
			check(t, some(), csiOf(0, byte(b), 'n', n), "")
			check(t, some(), csiOf('?', byte(b), 'n', n), "")
		}
	}
}

// P15.1: the cursor's place, from 1 on: in the corners, in the midst, with numbers
// of two digits; the margins count for nothing without Origin.
func TestPlace(t *testing.T) {
	for _, q := range []struct {
		row, col int
		want     string
	}{
		{0, 0, "\x1b[1;1R"}, {0, 59, "\x1b[1;60R"}, {39, 0, "\x1b[40;1R"}, {39, 59, "\x1b[40;60R"}, {2, 4, "\x1b[3;5R"},
		{8, 8, "\x1b[9;9R"}, {9, 8, "\x1b[10;9R"}, {8, 9, "\x1b[9;10R"}, {9, 9, "\x1b[10;10R"}, {23, 41, "\x1b[24;42R"}, {18, 19, "\x1b[19;20R"},
	} {
		for _, m := range [][2]int{{0, 39}, {5, 20}, {10, 39}, {0, 1}, {38, 39}} {
			s := screen.New(40, 60)
			s.Row, s.Col, s.Top, s.Bottom = q.row, q.col, m[0], m[1]
			check(t, s, isWhere, q.want)
			for _, e := range []api.Event{csi('H', q.row+1, q.col+1), csi('f', q.row+1, q.col+1)} {
				check(t, source.Do(screen.New(40, 60), e), isWhere, q.want)
			}
		}
	}
}

// P15.1: with Origin the row is counted from Top on: above the margins 1, at Top 1,
// within, at Bottom, below; the column is as without.
func TestPlaceWithOrigin(t *testing.T) {
	for row, want := range []int{1, 1, 1, 2, 3, 4, 5, 6} {
		for col := range 3 {
			s := screen.New(8, 3)
			s.Row, s.Col, s.Top, s.Bottom, s.Origin = row, col, 2, 5, true
			check(t, s, isWhere, fmt.Sprintf("\x1b[%d;%dR", want, col+1))
			s.Origin = false
			check(t, s, isWhere, fmt.Sprintf("\x1b[%d;%dR", row+1, col+1))
		}
	}
	for _, q := range []struct {
		top, bottom, row int
		want             string
	}{
		{0, 39, 0, "\x1b[1;7R"}, {0, 39, 39, "\x1b[40;7R"}, {0, 5, 30, "\x1b[31;7R"}, {38, 39, 39, "\x1b[2;7R"}, {38, 39, 38, "\x1b[1;7R"}, {38, 39, 37, "\x1b[1;7R"}, {38, 39, 0, "\x1b[1;7R"},
		{10, 20, 10, "\x1b[1;7R"}, {10, 20, 9, "\x1b[1;7R"}, {10, 20, 11, "\x1b[2;7R"}, {10, 20, 19, "\x1b[10;7R"}, {10, 20, 20, "\x1b[11;7R"}, {10, 20, 21, "\x1b[12;7R"}, {10, 20, 39, "\x1b[30;7R"},
	} {
		s := screen.New(40, 60)
		s.Row, s.Col, s.Top, s.Bottom, s.Origin = q.row, 6, q.top, q.bottom, true
		check(t, s, isWhere, q.want)
	}
}

// P15.1: what the application puts the cursor at is what it is told, with Origin
// and without.
func TestPlaceThatIsAskedFor(t *testing.T) {
	for _, origin := range []bool{false, true} {
		s := screen.New(40, 60)
		s.Top, s.Bottom, s.Origin = 12, 30, origin
		for row := 1; row <= 19; row++ {
			for col := 1; col <= 60; col++ {
				check(t, source.Do(s, csi('H', row, col)), isWhere, fmt.Sprintf("\x1b[%d;%dR", row, col))
			}
		}
	}
}

// P15.1: something pending: the column is the last one, still.
func TestPlaceWithSomethingPending(t *testing.T) {
	for row := range 6 {
		s := placed(row, 4)
		want := fmt.Sprintf("\x1b[%d;5R", max(row, 1))
		check(t, s, isWhere, want)
		s.Pending = false
		check(t, s, isWhere, want)
	}
	s := source.All(screen.New(2, 3), printed('a'), printed('b'), printed('c'))
	if check(t, s, isWhere, "\x1b[1;3R"); !s.Pending {
		t.Error(short(s))
	}
}

// P15.1: c of none and 0: what it is, whatever the screen is; others are not
// answered, nor with Priv or Inter.
func TestWhat(t *testing.T) {
	for _, s := range screens() {
		for _, params := range [][]int{nil, {}, {0}, {-1}, {0, 1}, {0, -1}, {-1, 1}, {-1, -1}, {0, 0, 0}, slices.Repeat([]int{0}, api.MaxParams)} {
			check(t, s, csi('c', params...), "\x1b[?6c")
		}
		for _, params := range [][]int{{1}, {2}, {5}, {6}, {256}, {65535}, {1, 0}, {1, -1}} {
			check(t, s, csi('c', params...), "")
		}
	}
	for b := 1; b < 256; b++ {
		for _, params := range [][]int{nil, {0}, {1}} {
			check(t, some(), csiOf(byte(b), 0, 'c', params...), "")
			check(t, some(), csiOf(0, byte(b), 'c', params...), "")
			check(t, some(), csiOf('?', byte(b), 'c', params...), "")
		}
	}
}

// P15.1: p of each mode that there is, set and not, all settings of the others.
func TestModes(t *testing.T) {
	for set := range 16 {
		s := some()
		s.Keys, s.Origin, s.Wrap, s.Shown = set&1 > 0, set&2 > 0, set&4 > 0, set&8 > 0
		for i, n := range []int{1, 6, 7, 25} {
			want := fmt.Sprintf("\x1b[?%d;%d$y", n, 2-set>>i&1)
			check(t, s, modeAsked(n), want)
			check(t, s, modeAsked(n, 1), want)
			check(t, s, modeAsked(n, -1, 6), want)
			check(t, s, modeAsked(n, 25, 7, 1), want)
		}
	}
	for _, n := range modes.All() {
		for _, on := range []bool{true, false} {
			s := modes.Set(some(), n, on)
			check(t, s, modeAsked(n), fmt.Sprintf("\x1b[?%d;%d$y", n, modes.Report(s, n)))
			check(t, source.Do(some(), seq.Set('?', on, n)), modeAsked(n), fmt.Sprintf("\x1b[?%d;%d$y", n, modes.Report(s, n)))
		}
	}
}

// P15.1: p of modes that there aren't, and of none: unknown.
func TestUnknownModes(t *testing.T) {
	for _, s := range screens() {
		for _, n := range []int{0, 2, 3, 4, 5, 8, 9, 12, 24, 26, 47, 257, 262, 281, 1000, 1049, 2004, 9999, 10000, 65534, 65535} {
			check(t, s, modeAsked(n), fmt.Sprintf("\x1b[?%d;0$y", n))
		}
		for _, params := range [][]int{nil, {}, {-1}, {-1, 25}, {0}, {0, 25}, {-1, -1}} {
			check(t, s, modeAsked(params...), "\x1b[?0;0$y")
		}
		check(t, s, modeAsked(2, 25), "\x1b[?2;0$y")
	}
}

// P15.1: p with another Priv or Inter, or without: none.
func TestModesOfOthers(t *testing.T) {
	for b := range 256 {
		for _, params := range [][]int{nil, {0}, {1}, {25}, {4}, {25, 1}} {
			if b != '?' {
				check(t, some(), csiOf(byte(b), '$', 'p', params...), "")
			}
			if b != '$' {
				check(t, some(), csiOf('?', byte(b), 'p', params...), "")
			}
			check(t, some(), csiOf(byte(b), byte(b), 'p', params...), "")
			check(t, some(), csiOf('$', byte(b), 'p', params...), "")
			check(t, some(), csiOf(byte(b), '?', 'p', params...), "")
		}
	}
}

// P15.1: every other last byte, whatever stands ahead of it: none.
func TestOtherLetters(t *testing.T) {
	lists := paramLists()
	for b := range 256 {
		if strings.ContainsRune("ncp", rune(b)) {
			continue
		}
		for _, params := range lists {
			check(t, some(), csi(byte(b), params...), "")
			check(t, some(), askedBy(byte(b), params...), "")
			check(t, some(), mode(byte(b), params...), "")
		}
	}
}

// P15.1: other kinds of events, whatever is in them: none.
func TestOtherKinds(t *testing.T) {
	for _, e := range []api.Event{{}, printed('n'), printed('c'), control(5), control(6), esc('n'), esc('c'), esc('Z'), {Kind: api.EOsc, Text: "6n"}, {Kind: api.EOsc, Text: "10;?"}} {
		check(t, some(), e, "")
	}
	for _, e := range otherKinds() {
		check(t, some(), e, "")
	}
}

// P15.1: of all events, of many screens, as the second reading has it; an answer is
// one right event, of which a parser makes it again.
func TestTo(t *testing.T) {
	es := kinds()
	for _, s := range screens() {
		for _, e := range es {
			want := toBy(s, e)
			check(t, s, e, want)
			if want == "" {
				continue
			}
			if es := parsed(want); len(es) != 1 || es[0].Kind != api.ECsi || string(seq.Print(es...)) != want {
				t.Fatalf("%+v: %q", e, want)
			}
		}
	}
}

// P15.1: of any screen and any of the questions.
func TestToAtRandom(t *testing.T) {
	r := rand.New(rand.NewSource(152))
	for range 3000 {
		s := rightScreen(r, 1+r.Intn(api.MaxRows), 1+r.Intn(api.MaxCols))
		check(t, s, isWhere, toBy(s, isWhere))
		e := modeAsked(pick(r, r.Intn(30), r.Intn(65536), 1, 6, 7, 25))
		check(t, s, e, toBy(s, e))
	}
}

// P15.2: Asks says so just where there is a screen with an answer.
func TestAsks(t *testing.T) {
	for _, e := range []api.Event{isWell, isWhere, isWhat, csi('c', 0), csi('c', -1, 5), csi('n', 5, 1), csi('n', 6, 1), modeAsked(), modeAsked(0), modeAsked(25), modeAsked(99), modeAsked(65535, 1)} {
		if !reply.Asks(e) {
			t.Error(e)
		}
	}
	for _, e := range []api.Event{{}, csi('n'), csi('n', 0), csi('n', 7), csi('n', -1, 6), csi('c', 1), mode('c'), mode('n', 6), csiOf('>', 0, 'c'), csi('p', 25), mode('p', 25), csiOf(0, '$', 'p', 25), mode('h', 25), csi('R', 1, 1), printed('n'), esc('n')} {
		if reply.Asks(e) {
			t.Error(e)
		}
	}
	ss := screens()
	for _, e := range kinds() {
		answered := slices.ContainsFunc(ss, func(s api.Screen) bool { return len(reply.To(s, e)) > 0 })
		if reply.Asks(e) != answered || answered != asksBy(ss, e) {
			t.Fatal(e, answered)
		}
	}
}

// P15.2: All of none, of one, of many without a question: source.Do of each, and
// no answer.
func TestAllWithoutQuestions(t *testing.T) {
	checkAll(t, some(), nil, some(), "")
	checkAll(t, some(), []api.Event{}, some(), "")
	es := []api.Event{printed('x'), control(8), esc('E'), csi('A', 2), mode('l', 7), {Kind: api.EOsc, Text: "x"}, {}, csi('J', 1), csi('m', 31), csi('R', 5, 5)}
	want := some()
	for _, e := range es {
		checkAll(t, some(), []api.Event{e}, source.Do(some(), e), "")
		want = source.Do(want, e)
	}
	checkAll(t, some(), es, want, "")
}

// P15.2: All of one question, and of questions alone: the screen stays.
func TestAllOfQuestions(t *testing.T) {
	for _, s := range screens() {
		all := ""
		qs := []api.Event{isWhere, isWell, isWhere, modeAsked(25), isWhat, modeAsked(), modeAsked(6), modeAsked(4, 6), isWhere}
		for _, e := range qs {
			checkAll(t, s, []api.Event{e}, s, toBy(s, e))
			all += toBy(s, e)
		}
		checkAll(t, s, qs, s, all)
	}
}

// P15.2: the answers are as the screen is ahead of each event, one behind the
// other, also where something between two questions changes what is asked for.
func TestAllBetween(t *testing.T) {
	s := screen.New(10, 20)
	for _, q := range []struct {
		es   []api.Event
		want string
	}{
		{[]api.Event{isWhere, printed('a'), isWhere}, "\x1b[1;1R\x1b[1;2R"},
		{[]api.Event{printed('a'), isWhere}, "\x1b[1;2R"},
		{[]api.Event{isWhere, printed('a')}, "\x1b[1;1R"},
		{[]api.Event{printed('a'), printed('b'), isWhere, isWhere, control(13), isWhere, control(10)}, "\x1b[1;3R\x1b[1;3R\x1b[1;1R"},
		{[]api.Event{csi('H', 4, 12), isWhere, csi('A', 2), csi('D'), isWhere, csi('H'), isWhere}, "\x1b[4;12R\x1b[2;11R\x1b[1;1R"},
		{[]api.Event{modeAsked(25), mode('l', 25), modeAsked(25), mode('h', 25), modeAsked(25)}, "\x1b[?25;1$y\x1b[?25;2$y\x1b[?25;1$y"},
		{[]api.Event{mode('h', 1), modeAsked(1), mode('l', 1, 7), modeAsked(7), modeAsked(1)}, "\x1b[?1;1$y\x1b[?7;2$y\x1b[?1;2$y"},
		{[]api.Event{csi('H', 7, 3), isWhere, csi('r', 3, 8), isWhere, csi('H', 7, 3), mode('h', 6), isWhere, csi('H', 5, 2), isWhere, mode('l', 6), isWhere, csi('H', 5, 2), isWhere},
			"\x1b[7;3R\x1b[1;1R\x1b[1;1R\x1b[5;2R\x1b[1;1R\x1b[5;2R"},
		{[]api.Event{csi('r', 3, 8), csi('H', 5, 2), esc('7'), mode('h', 6), esc('8'), isWhere}, "\x1b[5;2R"},
		{[]api.Event{csi('H', 3, 3), isWhere, esc('c'), isWhere, isWell, modeAsked(7), isWhat}, "\x1b[3;3R\x1b[1;1R\x1b[0n\x1b[?7;1$y\x1b[?6c"},
		{[]api.Event{isWhat, isWell, {Kind: api.EOsc, Text: "t"}, {}, csi('n'), isWhat}, "\x1b[?6c\x1b[0n\x1b[?6c"},
	} {
		want := s
		for _, e := range q.es {
			want = source.Do(want, e)
		}
		checkAll(t, s, q.es, want, q.want)
	}
}

// questions are those that there are, and events that look like them.
func questions() []api.Event {
	return []api.Event{
		isWell, isWhere, isWhere, isWhere, isWhat, modeAsked(1), modeAsked(6), modeAsked(7), modeAsked(25), modeAsked(), modeAsked(1049),
		csi('n'), csi('n', 1), mode('n', 6), mode('c'), mode('p', 25), csi('c', 1),
	}
}

// changes are events that change what is asked for, and some that don't.
func changes(r *rand.Rand) []api.Event {
	return []api.Event{
		printed('a'), printed(0x4E00), printed(0x301), control(8), control(10), control(13), control(9), esc('M'), esc('E'), esc('7'), esc('8'), esc('c'), esc('='),
		csi('H', r.Intn(12), r.Intn(12)), csi('A', r.Intn(4)), csi('B', r.Intn(4)), csi('C', r.Intn(4)), csi('d', r.Intn(12)), csi('r', r.Intn(5), r.Intn(12)),
		mode('h', 1, 6), mode('l', 6), mode('h', 7), mode('l', 7, 25), mode('h', 25), mode('l', 1), csi('J', 2), csi('m', 31), csi('L', 2),
	}
}

// P15.2: any events: as To and source.Do of each; cut anywhere, the same.
func TestAllAtRandom(t *testing.T) {
	r := rand.New(rand.NewSource(153))
	for range 1500 {
		s := rightScreen(r, 1+r.Intn(11), 1+r.Intn(11))
		var es []api.Event
		for range r.Intn(30) {
			es = append(es, pick(r, pick(r, questions()...), pick(r, changes(r)...)))
		}
		want, text := allBy(s, es)
		checkAll(t, s, es, want, text)
		cut := r.Intn(len(es) + 1)
		mid, first := reply.All(s, es[:cut]...)
		end, second := reply.All(mid, es[cut:]...)
		if !alike(end, want) || string(first)+string(second) != text {
			t.Fatalf("%+v cut at %d: %q, %q; %s", es, cut, first, second, short(end))
		}
	}
}

func full[T any](l []T) []T { return l[:cap(l)] }

// roomy is a copy of s with room behind its cells that isn't zero.
func roomy(s api.Screen) api.Screen {
	n := len(s.Grid.Cells)
	s.Grid.Cells = append(own(s).Grid.Cells, api.Cell{Rune: 71}, api.Cell{Rune: 72, Kind: 3})[:n]
	return s
}

// someScreens are right ones, and some that aren't.
func someScreens() []api.Screen {
	all := append(screens(), api.Screen{}, api.Screen{Grid: api.Grid{Cells: []api.Cell{}}})
	r := rand.New(rand.NewSource(154))
	for range 40 {
		all = append(all, wrongScreen(r))
	}
	return all
}

// someEvents are questions and changes, each with room behind its parameters that
// isn't zero.
func someEvents() []api.Event {
	r := rand.New(rand.NewSource(155))
	es := append(questions(), changes(r)...)
	es = append(es, api.Event{}, api.Event{Kind: api.EOsc, Text: "t"}, csi('n', 5), csi('A', 6), modeAsked(25, 7), csi('r', 2, 3))
	for i := range es {
		es[i].Params = append(slices.Clone(es[i].Params), 6, 25)[:len(es[i].Params)]
	}
	return es
}

// R2: what is handed in stays: cells and their spare room, parameters and theirs,
// the list of events.
func TestHandedInStays(t *testing.T) {
	es := append(someEvents(), isWhere, isWhat)
	es = es[:len(es)-2]
	was := slices.Clone(full(es))
	for i := range was {
		was[i].Params = slices.Clone(full(was[i].Params))
	}
	for _, s := range someScreens() {
		s = roomy(s)
		same, cells := own(s), slices.Clone(full(s.Grid.Cells))
		for _, e := range es {
			reply.To(s, e)
			reply.Asks(e)
		}
		if reply.All(s, es...); !alike(s, same) || !slices.Equal(full(s.Grid.Cells), cells) {
			t.Fatal(short(s))
		}
	}
	for i, e := range full(es) {
		e.Params = full(e.Params)
		if !seq.Same(e, was[i]) {
			t.Error(e, was[i])
		}
	}
}

// R2: an answer is nobody else's: it is written full, and what came ahead, what
// comes later and what was handed in stays; so does an answer when what was handed
// in is written full.
func TestAnswersAreNew(t *testing.T) {
	blot := func(b []byte) {
		for i := range b {
			b[i] = '#'
		}
	}
	spoil := func(l []api.Cell) {
		for i := range l {
			l[i] = api.Cell{Rune: 99, Kind: 98}
		}
	}
	es := someEvents()
	for _, given := range someScreens() {
		for _, e := range es {
			ahead := reply.To(given, e)
			want := string(ahead)
			blot(full(reply.To(given, e)))
			if string(ahead) != want || string(reply.To(given, e)) != want {
				t.Fatal(e, short(given))
			}
		}
		for i := range es {
			s := roomy(given)
			was := slices.Clone(full(s.Grid.Cells))
			ahead, b := reply.All(s, es[:i]...)
			want, text := own(ahead), string(b)
			other, c := reply.All(s, es[:i]...)
			spoil(full(other.Grid.Cells))
			blot(full(c))
			if !alike(ahead, want) || string(b) != text || !slices.Equal(full(s.Grid.Cells), was) {
				t.Fatal(es[:i], short(given))
			}
			spoil(full(s.Grid.Cells))
			if !alike(ahead, want) {
				t.Fatal("kept", es[:i], short(given))
			}
		}
	}
}

// R3: no answer is no bytes; R5: room behind the parameters is not read.
func TestSpareParameters(t *testing.T) {
	for _, e := range []api.Event{isWell, isWhere, csi('c', 1), modeAsked(25)} {
		e.Params = e.Params[:0]
		for _, s := range screens() {
			check(t, s, e, map[byte]string{'n': "", 'c': "\x1b[?6c", 'p': "\x1b[?0;0$y"}[e.Final])
		}
	}
}

// ends calls all that there is with s.
func ends(t *testing.T, what string, s api.Screen, es []api.Event) {
	t.Helper()
	defer func() {
		if x := recover(); x != nil {
			t.Fatalf("%s: %v: %+v", what, x, s)
		}
	}()
	for _, e := range es {
		reply.To(s, e)
		reply.Asks(e)
	}
	reply.All(s, es...)
}

// change is some change of a screen.
type change = func(s *api.Screen)

// R1: screens that aren't right, one thing wrong or two, of which nothing is
// promised but that all ends.
func TestWrongScreens(t *testing.T) {
	at := func(r, c int) change { return func(s *api.Screen) { s.Row, s.Col = r, c } }
	margins := func(top, bottom int) change { return func(s *api.Screen) { s.Top, s.Bottom = top, bottom } }
	wrong := map[string]change{
		"no cells":           func(s *api.Screen) { s.Grid.Cells = nil },
		"no rows":            func(s *api.Screen) { s.Grid.Rows = 0 },
		"no columns":         func(s *api.Screen) { s.Grid.Cols = 0 },
		"rows below nought":  func(s *api.Screen) { s.Grid.Rows, s.Grid.Cols = math.MinInt, math.MinInt },
		"many rows":          func(s *api.Screen) { s.Grid.Rows, s.Grid.Cols = math.MaxInt, math.MaxInt },
		"margins round":      margins(4, 1),
		"margins beyond":     margins(6, 7),
		"margins below":      margins(-2, -1),
		"margins far off":    margins(math.MinInt, math.MaxInt),
		"margins far round":  margins(math.MaxInt, math.MinInt),
		"one row of margins": margins(3, 3),
		"cursor below":       at(6, 5),
		"cursor above":       at(-1, -1),
		"cursor far":         at(math.MaxInt, math.MinInt),
		"cursor far, round":  at(math.MinInt, math.MaxInt),
		"pending elsewhere":  func(s *api.Screen) { s.Col, s.Wrap, s.Pending = 0, false, true },
		"Shift below":        func(s *api.Screen) { s.Sets, s.Shift = [2]byte{}, -7 },
		"nothing":            func(s *api.Screen) { *s = api.Screen{} },
	}
	es := someEvents()
	for name, one := range wrong {
		for other, two := range wrong {
			s := some()
			one(&s)
			two(&s)
			ends(t, name+", "+other, s, es)
			s.Origin = !s.Origin
			ends(t, name+", "+other, s, es)
		}
	}
}

// R1: any numbers at all, in all places.
func TestAnyNumbers(t *testing.T) {
	r := rand.New(rand.NewSource(156))
	others := kinds()
	for range 2000 {
		es := []api.Event{pick(r, others...)}
		for range 20 {
			b := pick(r, 'n', 'n', 'c', 'p', byte(r.Intn(256)))
			n, m := pick(r, beyond()...), pick(r, beyond()...)
			es = append(es, csi(b, n, m), askedBy(b, n, m), csi(b, n), pick(r, changes(r)...))
			es = append(es, api.Event{Kind: r.Intn(9) - 2, Rune: rune(r.Uint32()), Priv: byte(r.Intn(256)), Inter: byte(r.Intn(256)), Final: b})
		}
		ends(t, "any numbers", wrongScreen(r), es)
	}
}

// A cursor that is no place is told as the nearest one that can be told, and there
// is an answer of every screen just where Asks says so.
func TestAnswersOfWrongScreens(t *testing.T) {
	s := some()
	s.Origin = false
	for _, q := range []struct {
		row, col int
		want     string
	}{
		{-1, -1, "\x1b[1;1R"}, {-2, 3, "\x1b[1;4R"}, {3, -9, "\x1b[4;1R"}, {math.MinInt, math.MaxInt, "\x1b[1;65535R"}, {math.MaxInt, math.MinInt, "\x1b[65535;1R"},
		{65533, 65534, "\x1b[65534;65535R"}, {65535, 65536, "\x1b[65535;65535R"}, {40, 60, "\x1b[41;61R"},
	} {
		s.Row, s.Col = q.row, q.col
		check(t, s, isWhere, q.want)
	}
	es := kinds()
	for _, s := range someScreens() {
		for _, e := range es {
			if reply.Asks(e) != (len(reply.To(s, e)) > 0) {
				t.Fatal(e, short(s))
			}
		}
	}
}

// Parameters that no parser makes are read as seq.Arg reads them: kept between 0
// and MaxParam.
func TestWrongParameters(t *testing.T) {
	for _, q := range []struct {
		e    api.Event
		want string
	}{
		{csi('c', -5), "\x1b[?6c"}, {modeAsked(-5), "\x1b[?0;0$y"}, {modeAsked(math.MinInt, 25), "\x1b[?0;0$y"}, {modeAsked(65536), "\x1b[?65535;0$y"},
		{modeAsked(math.MaxInt), "\x1b[?65535;0$y"}, {csi('n', math.MinInt), ""}, {csi('n', 65541), ""}, {csi('n', 1<<32+6), ""}, {csi('c', math.MaxInt), ""},
	} {
		check(t, some(), q.e, q.want)
	}
	check(t, some(), modeAsked(slices.Repeat([]int{7}, 5000)...), "\x1b[?7;1$y")
}

// The chapter's runs.
func TestRuns(t *testing.T) {
	s := source.Feed(screen.New(24, 60), parse.New(), []byte("\x1b[3;5H"))
	if s.Row != 2 || s.Col != 4 {
		t.Fatal(short(s))
	}
	es := parsed("\x1b[6n\x1b[?25$p")
	check(t, s, es[0], "\x1b[3;5R")
	check(t, s, es[1], "\x1b[?25;1$y")
	checkAll(t, s, es, s, "\x1b[3;5R\x1b[?25;1$y")
}
