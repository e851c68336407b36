package dialect_test

import (
	"maps"
	"math"
	"math/rand"
	"slices"
	"strings"
	"testing"

	"linguist/api"
	"linguist/dialect"
	"linguist/parse"
	"linguist/seq"
)

// Short names for what stands in many rows.
const (
	vt100 = api.VT100
	linux = api.Linux
	vt52  = api.VT52
)

// none are numbers of no dialect.
func none() []int {
	return []int{0, 4, 5, 7, 63, 64, 65, 255, 256, 257, 258, 259, 1 << 16, 1<<32 + 1, 1<<32 + 2, math.MaxInt, -1, -2, -3, -64, -255, math.MinInt32, math.MinInt + 1, math.MinInt}
}

// finals are the last bytes that the chapter names for a dialect and for what
// else an event has: a second reading of it, one case a sentence.
func finals(d, kind int, priv, inter byte) string {
	type shape struct {
		kind        int
		priv, inter byte
	}
	at := shape{kind, priv, inter}
	switch {
	case !slices.Contains([]int{vt100, linux, vt52}, d):
		return ""
	case at == shape{api.EPrint, 0, 0}:
		return " "
	case at == shape{api.EExec, 0, 0} && d == vt52:
		return "\x07\x08\x09\x0a\x0d"
	case at == shape{api.EExec, 0, 0}:
		return "\x07\x08\x09\x0a\x0d\x0e\x0f"
	case at == shape{api.EEsc, 0, 0} && d == vt52:
		return "ABCDHIJKY"
	case d == vt52:
		return ""
	case at == shape{api.EEsc, 0, 0}:
		return "78DEMHc=>"
	case at == shape{api.EEsc, 0, '('} || at == shape{api.EEsc, 0, ')'}:
		return "0B"
	case at == shape{api.ECsi, 0, 0} && d == vt100:
		return "ABCDHfJKmrg"
	case at == shape{api.ECsi, 0, 0}:
		return "ABCDHfJKmrg" + "GdEF@PLMX"
	case at == shape{api.ECsi, '?', 0}:
		return "hl"
	}
	return ""
}

// tableBy is the table of d by finals.
func tableBy(d int) map[dialect.Key]bool {
	out := map[dialect.Key]bool{}
	for kind := api.EPrint; kind <= api.EOsc; kind++ {
		for _, priv := range []byte{0, '?'} {
			for _, inter := range []byte{0, '(', ')'} {
				for _, final := range []byte(finals(d, kind, priv, inter)) {
					out[key(d, kind, priv, inter, final)] = true
				}
			}
		}
	}
	return out
}

func key(d, kind int, priv, inter, final byte) dialect.Key {
	return dialect.Key{Dialect: d, Kind: kind, Priv: priv, Inter: inter, Final: final}
}

func event(kind int, priv, inter, final byte) api.Event {
	return api.Event{Kind: kind, Priv: priv, Inter: inter, Final: final}
}

func printed(r rune) api.Event { return api.Event{Kind: api.EPrint, Rune: r} }

// check holds Knows of one event against what is wanted of each dialect.
func check(t *testing.T, e api.Event, of100, ofLinux, of52 bool) {
	t.Helper()
	got := [3]bool{dialect.Knows(vt100, e), dialect.Knows(linux, e), dialect.Knows(vt52, e)}
	if want := [3]bool{of100, ofLinux, of52}; got != want {
		t.Errorf("%+v: %v, not %v", e, got, want)
	}
	for _, d := range none() {
		if dialect.Knows(d, e) {
			t.Errorf("%+v: known of %d", e, d)
		}
	}
}

// some are bytes for Priv and Inter: none, those that count, those of parse, others.
func some() []byte {
	return []byte{0, 1, 27, ' ', '!', '$', '\'', '(', ')', '*', '/', '0', '<', '=', '>', '?', '@', 'B', 'H', '[', 127, 128, 255}
}

// P16.1: All, in this order, each time.
func TestAll(t *testing.T) {
	for range 3 {
		if got := dialect.All(); !slices.Equal(got, []int{1, 2, 3}) || !slices.Equal(got, []int{vt100, linux, vt52}) {
			t.Fatal(got)
		}
	}
}

// P16.1: Right of each dialect, and of no number beside them.
func TestRight(t *testing.T) {
	for _, d := range []int{vt100, linux, vt52} {
		if !dialect.Right(d) {
			t.Error(d)
		}
	}
	for _, d := range none() {
		if dialect.Right(d) {
			t.Error(d)
		}
	}
	for d := -1000; d <= 70000; d++ {
		if got := dialect.Right(d); got != slices.Contains(dialect.All(), d) {
			t.Error(d, got)
		}
	}
}

// P16.1: Of of an EPrint: 32 to 126 are a blank, all others 127, also those whose
// last byte alone would be one of the first.
func TestOfPrinted(t *testing.T) {
	for _, q := range []struct {
		r    rune
		want byte
	}{
		{31, 127}, {32, 32}, {33, 32}, {'A', 32}, {'~', 32}, {126, 32}, {127, 127}, {128, 127}, {0, 127}, {1, 127}, {7, 127}, {27, 127}, {0xA0, 127}, {255, 127},
		{256, 127}, {256 + 32, 127}, {256 + 'A', 127}, {0x4E00, 127}, {0x4E41, 127}, {0x1F600, 127}, {0x2500, 127}, {0x301, 127}, {api.Bad, 127}, {api.MaxRune, 127},
		{api.MaxRune + 1, 127}, {math.MaxInt32, 127}, {1<<24 + 'A', 127}, {-1, 127}, {-32, 127}, {-224, 127}, {-126, 127}, {math.MinInt32, 127}, {math.MinInt32 + 65, 127},
	} {
		for _, d := range []int{vt100, linux, vt52, 0, 4, -1} {
			if got := dialect.Of(d, printed(q.r)); got != key(d, api.EPrint, 0, 0, q.want) {
				t.Errorf("%d of %d: %+v", q.r, d, got)
			}
		}
	}
	for r := rune(-300); r <= 0x11000; r++ {
		want := byte(127)
		if r >= 32 && r <= 126 {
			want = 32
		}
		if got := dialect.Of(linux, printed(r)); got != key(linux, api.EPrint, 0, 0, want) {
			t.Errorf("%d: %+v", r, got)
		}
	}
}

// P16.1: the Final of an EPrint is its rune's alone; its Priv and Inter stay.
func TestOfPrintedWithMore(t *testing.T) {
	for final := range 256 {
		for _, b := range some() {
			e := api.Event{Kind: api.EPrint, Rune: 'a', Priv: b, Inter: ')', Final: byte(final)}
			if got := dialect.Of(vt100, e); got != key(vt100, api.EPrint, b, ')', 32) {
				t.Errorf("%+v: %+v", e, got)
			}
			e = api.Event{Kind: api.EPrint, Rune: 0x4E00, Priv: '?', Inter: b, Final: byte(final)}
			if got := dialect.Of(vt52, e); got != key(vt52, api.EPrint, '?', b, 127) {
				t.Errorf("%+v: %+v", e, got)
			}
		}
	}
}

// P16.1: Of of each other kind, and of none: Priv, Inter, Final as they are, the
// Rune counts for nothing; d stays what it is, a dialect or not.
func TestOfOthers(t *testing.T) {
	for _, kind := range []int{api.EExec, api.EEsc, api.ECsi, api.EOsc, 0, 6, -1, 257, math.MaxInt, math.MinInt} {
		for final := range 256 {
			for _, d := range append(none(), vt100, linux, vt52) {
				for _, q := range [][2]byte{{0, 0}, {'?', 0}, {0, '('}, {'>', ')'}, {255, 1}} {
					e := event(kind, q[0], q[1], byte(final))
					want := key(d, kind, q[0], q[1], byte(final))
					if got := dialect.Of(d, e); got != want {
						t.Fatalf("%d, %+v: %+v", d, e, got)
					}
					e.Rune = 'a'
					if got := dialect.Of(d, e); got != want {
						t.Fatalf("%d, %+v: %+v", d, e, got)
					}
				}
			}
		}
	}
}

// P16.2: EPrint: of 32 to 126 alone.
func TestKnowsPrinted(t *testing.T) {
	for _, r := range []rune{32, 33, '0', 'A', 'x', '~', 126} {
		check(t, printed(r), true, true, true)
	}
	for _, r := range []rune{0, 1, 7, 10, 27, 31, 127, 128, 0xA0, 0xE9, 255, 256 + 32, 0x2500, 0x4E00, 0x1F600, api.Bad, api.MaxRune, api.MaxRune + 1, math.MaxInt32, -1, -96, math.MinInt32} {
		check(t, printed(r), false, false, false)
	}
	for _, b := range some()[1:] {
		check(t, api.Event{Kind: api.EPrint, Rune: 'a', Priv: b}, false, false, false)
		check(t, api.Event{Kind: api.EPrint, Rune: 'a', Inter: b}, false, false, false)
		check(t, api.Event{Kind: api.EPrint, Rune: 'a', Final: b}, true, true, true)
		check(t, api.Event{Kind: api.EPrint, Rune: 0x4E00, Final: b}, false, false, false)
	}
	check(t, api.Event{Kind: api.EPrint, Rune: 0x4E00, Final: 32}, false, false, false)
}

// P16.2: EExec of every number: 7, 8, 9, 10, 13 of all; 14 and 15 of all but a
// VT52; none with Priv or Inter.
func TestKnowsExec(t *testing.T) {
	for final := range 256 {
		b := byte(final)
		switch b {
		case 7, 8, 9, 10, 13:
			check(t, event(api.EExec, 0, 0, b), true, true, true)
		case 14, 15:
			check(t, event(api.EExec, 0, 0, b), true, true, false)
		default:
			check(t, event(api.EExec, 0, 0, b), false, false, false)
		}
		check(t, event(api.EExec, '?', 0, b), false, false, false)
		check(t, event(api.EExec, 0, '(', b), false, false, false)
		check(t, event(api.EExec, '?', ')', b), false, false, false)
	}
}

// P16.2: EEsc with every byte: without Inter, with ( and ), with another one, with
// Priv.
func TestKnowsEsc(t *testing.T) {
	for final := range 256 {
		b := byte(final)
		of100, of52 := strings.IndexByte("78DEMHc=>", b) >= 0, strings.IndexByte("ABCDHIJKY", b) >= 0
		check(t, event(api.EEsc, 0, 0, b), of100, of100, of52)
		set := b == '0' || b == 'B'
		check(t, event(api.EEsc, 0, '(', b), set, set, false)
		check(t, event(api.EEsc, 0, ')', b), set, set, false)
		for _, inter := range []byte{' ', '#', '%', '\'', '*', '+', '/', '?', 1, 255} {
			check(t, event(api.EEsc, 0, inter, b), false, false, false)
		}
		for _, priv := range []byte{'<', '=', '>', '?', '(', 1, 255} {
			check(t, event(api.EEsc, priv, 0, b), false, false, false)
			check(t, event(api.EEsc, priv, '(', b), false, false, false)
		}
	}
}

// P16.2: ECsi with every byte: without Priv and Inter, with ?, with another one,
// with Inter; a VT52 knows none.
func TestKnowsCsi(t *testing.T) {
	for final := range 256 {
		b := byte(final)
		of100, more := strings.IndexByte("ABCDHfJKmrg", b) >= 0, strings.IndexByte("GdEF@PLMX", b) >= 0
		check(t, event(api.ECsi, 0, 0, b), of100, of100 || more, false)
		set := b == 'h' || b == 'l'
		check(t, event(api.ECsi, '?', 0, b), set, set, false)
		for _, priv := range []byte{'<', '=', '>', '@', '!', 1, 255} {
			check(t, event(api.ECsi, priv, 0, b), false, false, false)
		}
		for _, inter := range []byte{' ', '!', '$', '(', ')', '?', 1, 255} {
			check(t, event(api.ECsi, 0, inter, b), false, false, false)
			check(t, event(api.ECsi, '?', inter, b), false, false, false)
		}
	}
}

// P16.2: EOsc and no kind: not known, whatever else is in them.
func TestKnowsNoOthers(t *testing.T) {
	for _, kind := range []int{api.EOsc, 0, 6, 7, -1, -2, 256 + api.EPrint, 1<<32 + api.ECsi, math.MaxInt, math.MinInt} {
		for final := range 256 {
			check(t, event(kind, 0, 0, byte(final)), false, false, false)
			check(t, event(kind, '?', 0, byte(final)), false, false, false)
			check(t, event(kind, 0, '(', byte(final)), false, false, false)
		}
		check(t, api.Event{Kind: kind, Text: "0;a"}, false, false, false)
		check(t, api.Event{Kind: kind, Rune: 'a'}, false, false, false)
		check(t, api.Event{Kind: kind, Rune: 'a', Final: 32}, false, false, false)
	}
}

// P16.2: all kinds, bytes of all sorts as Priv and Inter, every byte as Final.
func TestKnowsEachShape(t *testing.T) {
	for _, d := range []int{vt100, linux, vt52, 0, 4, -1} {
		for kind := -1; kind <= 6; kind++ {
			for _, priv := range some() {
				for _, inter := range some() {
					names := finals(d, kind, priv, inter)
					for _, final := range slices.Concat([]byte(names), some()) {
						e := event(kind, priv, inter, final)
						want := strings.IndexByte(names, final) >= 0
						if kind == api.EPrint {
							// Its Final counts for nothing, and no rune is none.
							want = false
						}
						if got := dialect.Knows(d, e); got != want {
							t.Fatalf("%d, %+v: %v", d, e, got)
						}
					}
				}
			}
		}
	}
}

// P16.2: parameters change nothing, nor does a text, nor a rune of what isn't an
// EPrint.
func TestParametersDontMatter(t *testing.T) {
	for _, params := range [][]int{{}, {-1}, {0}, {1}, {25}, {-1, -1}, {65535, 65536}, {math.MinInt, math.MaxInt}, slices.Repeat([]int{7}, 40)} {
		for _, d := range append(none(), dialect.All()...) {
			for kind := -1; kind <= 6; kind++ {
				for _, q := range [][2]byte{{0, 0}, {'?', 0}, {0, '('}} {
					for _, final := range []byte("78DEMHc=>0BAfJKmrghlGdF@PLXIYqz\x07\x0e") {
						e := event(kind, q[0], q[1], final)
						same, want := dialect.Of(d, e), dialect.Knows(d, e)
						e.Params, e.Text = params, "text"
						if kind != api.EPrint {
							e.Rune = 'a'
						}
						if dialect.Of(d, e) != same || dialect.Knows(d, e) != want {
							t.Fatalf("%d: %+v", d, e)
						}
					}
				}
			}
		}
	}
}

// P16.2, P16.3: each table has the keys that the chapter names, and no more; all
// values are true.
func TestTable(t *testing.T) {
	for d, size := range map[int]int{vt100: 34, linux: 43, vt52: 15} {
		got := dialect.Table(d)
		if len(got) != size || !maps.Equal(got, tableBy(d)) {
			t.Error(d, len(got), got)
		}
		for k, v := range got {
			if !v || k.Dialect != d {
				t.Error(d, k, v)
			}
		}
	}
}

// P16.2: the table of no dialect is empty, and one's own as the others are.
func TestTableOfNone(t *testing.T) {
	for _, d := range none() {
		got := dialect.Table(d)
		if len(got) != 0 {
			t.Error(d, got)
		}
		got[key(d, api.EPrint, 0, 0, 32)] = true
		if len(dialect.Table(d)) != 0 || dialect.Knows(d, printed('a')) {
			t.Error(d)
		}
	}
}

// P16.2: Knows is Of as a key of Table, of everything.
func TestKnowsIsTable(t *testing.T) {
	r := rand.New(rand.NewSource(161))
	for _, d := range append(none(), dialect.All()...) {
		table := dialect.Table(d)
		for k := range table {
			e := event(k.Kind, k.Priv, k.Inter, k.Final)
			if k.Kind == api.EPrint {
				e.Rune = 'a'
			}
			if !dialect.Knows(d, e) || dialect.Of(d, e) != k {
				t.Error(d, k)
			}
		}
		for range 4000 {
			few := some()
			e := event(r.Intn(8)-1, few[r.Intn(len(few))], few[r.Intn(len(few))], byte(r.Intn(256)))
			if r.Intn(2) == 0 {
				e.Priv, e.Inter = 0, 0
			}
			e.Rune = rune(r.Intn(300) - 20)
			if got := dialect.Knows(d, e); got != table[dialect.Of(d, e)] {
				t.Fatalf("%d, %+v: %v", d, e, got)
			}
		}
	}
}

// P16.2: what a VT100 knows a Linux console knows; what it knows besides are nine
// commands.
func TestLinuxKnowsMore(t *testing.T) {
	of100, more := dialect.Table(vt100), dialect.Table(linux)
	for k := range of100 {
		k.Dialect = linux
		if !more[k] {
			t.Error(k)
		}
		delete(more, k)
	}
	for _, final := range []byte("GdEF@PLMX") {
		if !more[key(linux, api.ECsi, 0, 0, final)] {
			t.Error(string(final))
		}
	}
	if len(more) != 9 {
		t.Error(more)
	}
}

// P16.1, P16.2: two dialects have no key in common, though they know the same.
func TestDialectsAreApart(t *testing.T) {
	for _, d := range dialect.All() {
		for _, other := range dialect.All() {
			for k := range dialect.Table(d) {
				if dialect.Table(other)[k] != (d == other) {
					t.Error(d, other, k)
				}
			}
		}
	}
	if dialect.Of(vt100, printed('a')) == dialect.Of(linux, printed('a')) {
		t.Error("one key of two dialects")
	}
}

// P16.3: a table that is changed, in every way, changes no other one, neither one
// that came ahead nor one that comes later, nor what is known.
func TestTablesAreNew(t *testing.T) {
	for _, d := range dialect.All() {
		ahead := dialect.Table(d)
		for _, other := range dialect.All() {
			spoiled := dialect.Table(other)
			for k := range spoiled {
				spoiled[k] = false
			}
			spoiled[key(d, api.EOsc, 0, 0, 0)] = true
			spoiled = dialect.Table(other)
			clear(spoiled)
			spoiled[key(d, api.ECsi, '?', 0, 'z')] = true
		}
		if want := tableBy(d); !maps.Equal(ahead, want) || !maps.Equal(dialect.Table(d), want) {
			t.Error(d)
		}
		if !dialect.Knows(d, printed('a')) || dialect.Knows(d, event(api.EOsc, 0, 0, 0)) || dialect.Knows(d, event(api.ECsi, '?', 0, 'z')) {
			t.Error(d)
		}
	}
}

// R2: what All answers is new each time, its spare room too.
func TestAllIsNew(t *testing.T) {
	ahead, other := dialect.All(), dialect.All()
	other = other[:cap(other)]
	for i := range other {
		other[i] = 9
	}
	if want := []int{1, 2, 3}; !slices.Equal(ahead, want) || !slices.Equal(dialect.All(), want) {
		t.Error(ahead, dialect.All())
	}
	if dialect.Right(9) || !dialect.Right(vt100) || len(dialect.Table(9)) != 0 || !dialect.Knows(vt52, printed('a')) {
		t.Error("another dialect is right")
	}
}

// R2: parameters that are handed in stay, and the room behind them.
func TestHandedInStays(t *testing.T) {
	for kind := -1; kind <= 6; kind++ {
		room := []int{5, -1, 6, 7}
		e := api.Event{Kind: kind, Rune: 'a', Priv: '?', Inter: '(', Final: 'h', Params: room[:2], Text: "text"}
		was := e
		was.Params = slices.Clone(e.Params)
		for _, d := range append(none(), dialect.All()...) {
			dialect.Of(d, e)
			dialect.Knows(d, e)
		}
		if !seq.Same(e, was) || !slices.Equal(room, []int{5, -1, 6, 7}) {
			t.Error(e, room)
		}
	}
}

// R1: any numbers at all, in all places: all ends, and what is no dialect knows
// nothing.
func TestAnyNumbers(t *testing.T) {
	r := rand.New(rand.NewSource(162))
	numbers := append(none(), vt100, linux, vt52)
	runes := []rune{math.MinInt32, -1, 0, 31, 32, 126, 127, 0xD800, api.MaxRune, api.MaxRune + 1, math.MaxInt32}
	for range 30000 {
		d := numbers[r.Intn(len(numbers))]
		e := api.Event{Kind: numbers[r.Intn(len(numbers))], Rune: runes[r.Intn(len(runes))], Priv: byte(r.Uint32()), Inter: byte(r.Uint32()), Final: byte(r.Uint32())}
		if r.Intn(2) == 0 {
			e.Kind, e.Priv, e.Inter = r.Intn(7), 0, 0
		}
		k, knows := dialect.Of(d, e), dialect.Knows(d, e)
		want := strings.IndexByte(finals(d, e.Kind, e.Priv, e.Inter), k.Final) >= 0
		if k.Dialect != d || k.Kind != e.Kind || knows != want {
			t.Fatalf("%d, %+v: %+v, %v", d, e, k, knows)
		}
	}
	for _, d := range dialect.All() {
		for kind := -1; kind <= 6; kind++ {
			if e := event(kind, 0, 0, 0); dialect.Knows(d, e) {
				t.Errorf("%d: %+v", d, e)
			}
		}
	}
}

// parsed is the one event of a text.
func parsed(t *testing.T, text string) api.Event {
	t.Helper()
	es := parse.New().Feed([]byte(text))
	if len(es) != 1 {
		t.Fatalf("%q: %+v", text, es)
	}
	return es[0]
}

// The chapter's runs, and some like them.
func TestRuns(t *testing.T) {
	check(t, parsed(t, "\x1b[H"), true, true, false)
	check(t, parsed(t, "\x1b[P"), false, true, false)
	check(t, parsed(t, "\x1bH"), true, true, true)
	check(t, parsed(t, "\x1b[3;4H"), true, true, false)
	check(t, parsed(t, "\x1b[?25l"), true, true, false)
	check(t, parsed(t, "\x1b[25l"), false, false, false)
	check(t, parsed(t, "\x1b(0"), true, true, false)
	check(t, parsed(t, "\x1bI"), false, false, true)
	check(t, parsed(t, "\x1b]0;a\x07"), false, false, false)
	check(t, parsed(t, "\u4e00"), false, false, false)
}
