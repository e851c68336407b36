package seq_test

import (
	"bytes"
	"fmt"
	"math"
	"math/rand"
	"slices"
	"strings"
	"testing"

	"linguist/api"
	"linguist/seq"
)

// short tells an event without all of a long text.
func short(e api.Event) string {
	e.Text = e.Text[:min(len(e.Text), 50)]
	e.Params = e.Params[:min(len(e.Params), 20)]
	return fmt.Sprintf("%#v", e)
}

func checkRight(t *testing.T, want bool, es ...api.Event) {
	t.Helper()
	for _, e := range es {
		if seq.Right(e) != want {
			t.Errorf("%s: not %v", short(e), want)
		}
	}
}

// checkModel holds Right and Print of one event against the parser.
func checkModel(t *testing.T, e api.Event) {
	t.Helper()
	right := made(e)
	if seq.Right(e) != right {
		t.Fatalf("%s: not %v", short(e), right)
	}
	want := ""
	if right {
		want = written(e)
	}
	if got := seq.Print(e); string(got) != want {
		t.Fatalf("%s: %q, not %q", short(e), got, want)
	}
}

// P6.1: some of each kind; of wrong ones nothing is printed.
func TestRight(t *testing.T) {
	checkRight(t, true, rights()...)
	checkRight(t, false, wrongs()...)
	for _, e := range append(rights(), wrongs()...) {
		checkModel(t, e)
	}
}

// P6.1: a zero event, and kinds that are none, whatever is in them.
func TestRightKinds(t *testing.T) {
	checkRight(t, false, api.Event{})
	for _, kind := range []int{math.MinInt, -5, -1, 0, 6, 7, 255, 256 + api.EPrint, 1<<32 + api.EExec, math.MaxInt} {
		for _, e := range rights() {
			e.Kind = kind
			checkRight(t, false, e)
		}
	}
}

// P6.1: what is right of one kind is, as another one, not.
func TestRightOtherKinds(t *testing.T) {
	for _, e := range rights() {
		for kind := api.EPrint; kind <= api.EOsc; kind++ {
			f := e
			f.Kind = kind
			checkModel(t, f)
		}
	}
}

// P6.1, EPrint: each rune, those beside them, and what would be one if bits fell off.
func TestRightPrint(t *testing.T) {
	for r := rune(-300); r < 0x110200; r++ {
		want := r >= 32 && r <= 126 || r >= 128 && r <= 0xD7FF || r >= 0xE000 && r <= 0x10FFFF
		if seq.Right(printOf(r)) != want {
			t.Fatalf("%X: not %v", r, want)
		}
	}
	for _, r := range []rune{math.MinInt32, math.MinInt32 + 'a', -0x110000 + 'a', 1 << 24, 1<<24 + 'a', 0x200000 + 'a', math.MaxInt32} {
		checkRight(t, false, printOf(r))
	}
}

// P6.1, EExec: each byte.
func TestRightExec(t *testing.T) {
	for i := range 256 {
		checkRight(t, i < 32 && i != 24 && i != 26 && i != 27, execOf(byte(i)))
	}
}

// P6.1, EEsc: each Final with each Inter.
func TestRightEsc(t *testing.T) {
	for i := range 256 {
		for j := range 256 {
			final, inter := byte(i), byte(j)
			want := i >= 48 && i <= 126 && (j == 0 && !strings.Contains("[]PX^_", string([]byte{final})) || j >= 32 && j <= 47)
			if seq.Right(escOf(inter, final)) != want {
				t.Fatalf("%d %d: not %v", inter, final, want)
			}
		}
	}
}

// P6.1, ECsi: each Final with each Inter and with each Priv, and each two of
// these with each other.
func TestRightCsi(t *testing.T) {
	finals, inters, privs := make([]bool, 256), make([]bool, 256), make([]bool, 256)
	for i := range 256 {
		finals[i] = i >= 64 && i <= 126
		inters[i] = i == 0 || i >= 32 && i <= 47
		privs[i] = i == 0 || i == '<' || i == '=' || i == '>' || i == '?'
	}
	for i := range 256 {
		for j := range 256 {
			a, b := byte(i), byte(j)
			for _, q := range []struct {
				e    api.Event
				want bool
			}{
				{csiWith(0, b, a), finals[a] && inters[b]},
				{csiWith('?', b, a, 1), finals[a] && inters[b]},
				{csiWith(b, 0, a), finals[a] && privs[b]},
				{csiWith(b, '$', a, 1, def), finals[a] && privs[b]},
				{csiWith(a, b, 'm', 2), privs[a] && inters[b]},
			} {
				if seq.Right(q.e) != q.want {
					t.Fatalf("%s: not %v", short(q.e), q.want)
				}
			}
		}
	}
}

// P6.1, ECsi: each number at each place of each length, and how many there may be.
func TestRightParams(t *testing.T) {
	for n := range 20 {
		checkRight(t, n <= 16, csi('m', make([]int, n)...), csi('m', slices.Repeat([]int{65535}, n)...))
		checkRight(t, n <= 16 && n != 1, csi('m', slices.Repeat([]int{def}, n)...), csiWith('?', '$', 'p', slices.Repeat([]int{def}, n)...))
		for i := range min(n, 16) {
			for _, q := range []struct {
				x    int
				want bool
			}{
				{math.MinInt, false}, {-1 << 32, false}, {-65536, false}, {-3, false}, {-2, false}, {0, true}, {1, true}, {255, true}, {256, true},
				{65534, true}, {65535, true}, {65536, false}, {65537, false}, {1 << 31, false}, {1 << 32, false}, {1<<32 + 1, false}, {math.MaxInt, false},
			} {
				ns := slices.Repeat([]int{7}, n)
				ns[i] = q.x
				checkRight(t, q.want && n <= 16, csi('m', ns...), csiWith('>', ' ', 'm', ns...))
				ns = slices.Repeat([]int{def}, n)
				ns[i] = q.x
				checkRight(t, q.want && n <= 16, csi('m', ns...))
			}
		}
	}
	checkRight(t, false, csi('m', make([]int, 1<<20)...))
}

// P6.1, EOsc: texts about MaxText, and each byte at each end and between.
func TestRightOsc(t *testing.T) {
	for n, want := range map[int]bool{0: true, 1: true, 4095: true, 4096: true, 4097: false, 4098: false, 8192: false, 1 << 16: false} {
		checkRight(t, want, oscOf(strings.Repeat("x", n)), oscOf(strings.Repeat(" ", n)))
		if n > 0 {
			checkRight(t, want, oscOf(strings.Repeat("\xFF", n)))
			checkRight(t, false, oscOf(strings.Repeat("x", n-1)+"\x1F"), oscOf("\x00"+strings.Repeat("x", n-1)))
		}
	}
	checkRight(t, true, oscOf(strings.Repeat("\xE4\xB8\x80", 1365)+"x"))
	checkRight(t, false, oscOf(strings.Repeat("\xE4\xB8\x80", 1366)))
	for i := range 256 {
		s := string([]byte{byte(i)})
		checkRight(t, i >= 32, oscOf(s), oscOf(s+"ab"), oscOf("ab"+s), oscOf("a"+s+"b"), oscOf(strings.Repeat("x", 4095)+s), oscOf(s+strings.Repeat("x", 4095)))
	}
}

// P6.1: what a kind doesn't ask, each field by itself; an empty list is none.
func TestRightAsksNothingElse(t *testing.T) {
	checkRight(t, false, more(rights())...)
	for _, e := range rights() {
		if len(e.Params) == 0 {
			for _, none := range [][]int{nil, {}, make([]int, 0, 5)} {
				e.Params = none
				checkRight(t, true, e)
			}
		}
	}
}

// variants are events of which each two differ in one field, or more.
func variants() []api.Event {
	all := []api.Event{{}}
	for _, n := range []int{1, -1, 256, math.MinInt, math.MaxInt} {
		all = append(all, api.Event{Kind: n})
	}
	for _, r := range []rune{1, -1, 256, 0x10FFFF, math.MinInt32, math.MaxInt32} {
		all = append(all, api.Event{Rune: r})
	}
	for _, b := range []byte{1, 32, 127, 128, 255} {
		all = append(all, api.Event{Priv: b}, api.Event{Inter: b}, api.Event{Final: b})
	}
	for _, s := range []string{"\x00", "a", "b", "ab", "ba", "a\x00", " ", strings.Repeat("a", 5000), strings.Repeat("a", 4999) + "b"} {
		all = append(all, api.Event{Text: s})
	}
	for _, ns := range [][]int{{0}, {def}, {1}, {math.MinInt}, {math.MaxInt}, {0, 0}, {0, 1}, {1, 0}, {1, 2, 3}, {9, 2, 3}, {1, 9, 3}, {1, 2, 9}, {1, 2}, {1, 2, 3, 0}, make([]int, 16), make([]int, 17)} {
		all = append(all, api.Event{Params: ns})
	}
	full := api.Event{Kind: 4, Rune: 5, Priv: 6, Inter: 7, Final: 8, Params: []int{9, 10}, Text: "11"}
	all = append(all, full)
	for i := range 8 {
		e := full
		e.Params = slices.Clone(full.Params)
		switch i {
		case 0:
			e.Kind = 5
		case 1:
			e.Rune = 4
		case 2:
			e.Priv = 7
		case 3:
			e.Inter = 6
		case 4:
			e.Final = 9
		case 5:
			e.Params[1] = 11
		case 6:
			e.Params = e.Params[:1]
		case 7:
			e.Text = "12"
		}
		all = append(all, e)
	}
	return all
}

// P6.1: Same of each two events, both ways, of a list of its own each.
func TestSame(t *testing.T) {
	for i, a := range variants() {
		for j, b := range variants() {
			if seq.Same(a, b) != (i == j) {
				t.Errorf("%s, %s: %v", short(a), short(b), i != j)
			}
		}
	}
	for _, e := range append(rights(), wrongs()...) {
		f := e
		f.Params = slices.Clone(e.Params)
		f.Text = strings.Clone(e.Text)
		if !seq.Same(e, f) {
			t.Errorf("%s: not the same", short(e))
		}
	}
}

// P6.1, R4: no parameters and an empty list of them are alike; room behind a list
// is none of it.
func TestSameWithoutParams(t *testing.T) {
	for _, e := range []api.Event{{}, printOf('a'), csi('m'), {Kind: -7, Text: "\n"}} {
		a, b, c := e, e, e
		a.Params, b.Params, c.Params = nil, []int{}, []int{1, 2}[:0]
		if !seq.Same(a, b) || !seq.Same(b, a) || !seq.Same(a, c) || !seq.Same(c, b) {
			t.Errorf("%s: not the same", short(e))
		}
	}
	long, other := []int{1, 2, 3}, []int{1, 2, 4}
	if !seq.Same(csi('m', long[:2]...), csi('m', other[:2]...)) || seq.Same(csi('m', long...), csi('m', long[:2]...)) {
		t.Error("room")
	}
}

// P6.2: each kind.
func TestPrint(t *testing.T) {
	most := strings.Repeat("x", 4096)
	for _, q := range []struct {
		e    api.Event
		want string
	}{
		{printOf(' '), " "}, {printOf('a'), "a"}, {printOf('~'), "~"}, {printOf(0x80), "\xC2\x80"}, {printOf(0xE4), "\xC3\xA4"},
		{printOf(0x7FF), "\xDF\xBF"}, {printOf(0x800), "\xE0\xA0\x80"}, {printOf(0xD7FF), "\xED\x9F\xBF"}, {printOf(0xE000), "\xEE\x80\x80"},
		{printOf(0xFFFD), "\xEF\xBF\xBD"}, {printOf(0x10000), "\xF0\x90\x80\x80"}, {printOf(0x10FFFF), "\xF4\x8F\xBF\xBF"},
		{execOf(0), "\x00"}, {execOf(7), "\x07"}, {execOf('\n'), "\n"}, {execOf(31), "\x1F"},
		{escOf(0, 'D'), "\x1BD"}, {escOf(0, '7'), "\x1B7"}, {escOf(0, '0'), "\x1B0"}, {escOf(0, '~'), "\x1B~"}, {escOf('(', '0'), "\x1B(0"}, {escOf(' ', '['), "\x1B ["}, {escOf('/', ']'), "\x1B/]"},
		{csi('m'), "\x1B[m"}, {csi('m', 0), "\x1B[0m"}, {csi('H', 3, 4), "\x1B[3;4H"}, {csi('H', def, def), "\x1B[;H"}, {csi('H', def, 5), "\x1B[;5H"},
		{csi('H', 5, def), "\x1B[5;H"}, {csi('H', def, def, def), "\x1B[;;H"}, {csi('m', 1, def, 31), "\x1B[1;;31m"}, {csi('m', 65535, 10, 100, 9), "\x1B[65535;10;100;9m"},
		{csiWith('?', 0, 'h', 25), "\x1B[?25h"}, {csiWith('?', 0, 'l', 1, 6), "\x1B[?1;6l"}, {csiWith('>', 0, 'c'), "\x1B[>c"}, {csiWith('<', '/', '~'), "\x1B[</~"}, {csiWith('=', 0, 'c', 0), "\x1B[=0c"},
		{csiWith(0, ' ', 'q', 2), "\x1B[2 q"}, {csiWith(0, '!', 'p'), "\x1B[!p"}, {csiWith('?', '$', 'p', 1), "\x1B[?1$p"}, {csiWith('?', '$', 'p', def, def), "\x1B[?;$p"},
		{csi('m', slices.Repeat([]int{def}, 16)...), "\x1B[;;;;;;;;;;;;;;;m"}, {csi('m', 1, 2, 3, 4, 5, 6, 7, 8, 9, 10, 11, 12, 13, 14, 15, 16), "\x1B[1;2;3;4;5;6;7;8;9;10;11;12;13;14;15;16m"},
		{oscOf(""), "\x1B]\x07"}, {oscOf("0;title"), "\x1B]0;title\x07"}, {oscOf("\xC3\xA4\xFF\x7F\\"), "\x1B]\xC3\xA4\xFF\x7F\\\x07"}, {oscOf(most), "\x1B]" + most + "\x07"},
	} {
		if got := seq.Print(q.e); string(got) != q.want {
			t.Errorf("%s: %q, not %q", short(q.e), got, q.want)
		}
	}
}

// P6.2: none, many, and some that aren't right among others.
func TestPrintMany(t *testing.T) {
	if len(seq.Print()) != 0 || len(seq.Print(nil...)) != 0 || len(seq.Print([]api.Event{}...)) != 0 || len(seq.Print(wrongs()...)) != 0 {
		t.Error("not nothing")
	}
	got := seq.Print(printOf('a'), execOf('\n'), escOf('(', '0'), csiWith('?', 0, 'h', 25), oscOf("0;b"), csi('m'), printOf(0xE4))
	if string(got) != "a\n\x1B(0\x1B[?25h\x1B]0;b\x07\x1B[m\xC3\xA4" {
		t.Errorf("%q", got)
	}
	for _, w := range wrongs() {
		for _, q := range []struct {
			es   []api.Event
			want string
		}{
			{[]api.Event{w}, ""}, {[]api.Event{w, w}, ""},
			{[]api.Event{w, printOf('a')}, "a"}, {[]api.Event{csi('m', 1), w}, "\x1B[1m"},
			{[]api.Event{csi('m', 1), w, execOf(7)}, "\x1B[1m\x07"}, {[]api.Event{w, escOf(0, 'D'), w, oscOf("b"), w}, "\x1BD\x1B]b\x07"},
		} {
			if got := seq.Print(q.es...); string(got) != q.want {
				t.Errorf("%s: %q, not %q", short(w), got, q.want)
			}
		}
	}
}

// P6.3: Arg, with the bounds about what is there.
func TestArg(t *testing.T) {
	e := csiWith('?', '$', 'm', 5, 0, def, 100, 65535)
	for _, q := range []struct{ i, none, lo, hi, want int }{
		{0, 1, 1, 9, 5}, {0, 1, 0, 9, 5}, {0, 1, 5, 9, 5}, {0, 1, 6, 9, 6}, {0, 1, 1, 5, 5}, {0, 1, 1, 4, 4}, {0, 1, -9, 9, 5}, {0, 1, -9, -3, -3},
		{1, 7, 1, 9, 7}, {1, 7, 0, 9, 0}, {1, 7, -1, 9, 0}, {1, 7, 2, 9, 7}, {1, 7, -9, -1, -1}, {1, 7, 0, 0, 0}, {1, 0, 1, 9, 1}, {1, 70, 1, 9, 9}, {1, -7, 1, 9, 1}, {1, def, 1, 9, 1}, {1, 7, 8, 9, 8},
		{2, 7, 1, 9, 7}, {2, 7, 0, 9, 7}, {2, 7, -5, 9, 7}, {2, 0, 0, 9, 0}, {2, 0, 1, 9, 1}, {2, 10, 1, 9, 9}, {2, -3, 0, 9, 0}, {2, def, -5, 9, def}, {2, -6, -5, 9, -5}, {2, 0, -5, 9, 0},
		{3, 1, 1, 99, 99}, {3, 1, 1, 100, 100}, {3, 1, 1, 101, 100}, {3, 1, 100, 100, 100}, {3, 1, 101, 101, 101}, {3, 1, 99, 99, 99},
		{4, 1, 1, 65535, 65535}, {4, 1, 1, 65534, 65534}, {4, 1, math.MinInt, math.MaxInt, 65535},
		{5, 7, 1, 9, 7}, {5, 7, 0, 9, 7}, {5, 0, 1, 9, 1}, {5, 10, 1, 9, 9}, {5, 0, 0, 9, 0}, {5, -3, -9, 9, -3}, {5, 7, 7, 7, 7}, {5, 6, 7, 7, 7}, {5, 8, 7, 7, 7},
		{6, 7, 1, 9, 7}, {-1, 7, 1, 9, 7}, {-2, 7, 1, 9, 7}, {-5, 7, 1, 9, 7}, {math.MinInt, 7, 1, 9, 7}, {math.MaxInt, 7, 1, 9, 7}, {1 << 32, 7, 1, 9, 7}, {-1 << 32, 7, 1, 9, 7},
		{-1, math.MaxInt, math.MinInt, math.MaxInt, math.MaxInt}, {-1, math.MinInt, math.MinInt, math.MaxInt, math.MinInt},
	} {
		if got := seq.Arg(e, q.i, q.none, q.lo, q.hi); got != q.want {
			t.Errorf("%v: %d", q, got)
		}
	}
}

// P6.3: Arg, of all mixtures of small numbers, against the chapter's words.
func TestArgMixtures(t *testing.T) {
	params := []int{0, def, 1, 2, 3, -2}
	for _, ns := range [][]int{nil, {}, {0}, {def}, params[:3], params} {
		e := csi('m', ns...)
		for i := -2; i < 8; i++ {
			for none := -3; none < 5; none++ {
				for lo := -3; lo < 5; lo++ {
					for hi := lo; hi < 5; hi++ {
						want := none
						if i >= 0 && i < len(ns) && ns[i] != def && (ns[i] != 0 || lo <= 0) {
							want = ns[i]
						}
						if want < lo {
							want = lo
						} else if want > hi {
							want = hi
						}
						if got := seq.Arg(e, i, none, lo, hi); got != want {
							t.Fatalf("%v, %d, %d, %d, %d: %d, not %d", ns, i, none, lo, hi, got, want)
						}
					}
				}
			}
		}
	}
}

// P6.3: Arg looks at nothing but the parameters, and not behind them.
func TestArgOfAny(t *testing.T) {
	room := []int{4, 5, 6}
	for _, e := range append(rights(), wrongs()...) {
		e.Params = room[:2]
		if seq.Arg(e, 0, 1, 1, 9) != 4 || seq.Arg(e, 1, 1, 1, 9) != 5 || seq.Arg(e, 2, 1, 1, 9) != 1 {
			t.Errorf("%s", short(e))
		}
	}
}

// R1: Arg ends, also where hi is below lo.
func TestArgEnds(t *testing.T) {
	edges := []int{math.MinInt, -2, -1, 0, 1, 2, 65535, math.MaxInt}
	for _, e := range append(rights(), wrongs()...) {
		for _, i := range edges {
			for _, none := range edges {
				for _, lo := range edges {
					for _, hi := range edges {
						got := seq.Arg(e, i, none, lo, hi)
						if lo <= hi && (got < lo || got > hi) {
							t.Fatalf("%s, %d, %d, %d, %d: %d", short(e), i, none, lo, hi, got)
						}
					}
				}
			}
		}
	}
}

func checkEvent(t *testing.T, got, want api.Event) {
	t.Helper()
	if !like(got, want) {
		t.Errorf("%s, not %s", short(got), short(want))
	}
}

// P6.3: Csi of each byte, and of parameters of all lengths.
func TestCsi(t *testing.T) {
	for i := range 256 {
		b := byte(i)
		checkEvent(t, seq.Csi(b), csi(b))
		checkEvent(t, seq.Csi(b, 3, 4), csi(b, 3, 4))
		checkEvent(t, seq.Csi(b, def), csi(b))
	}
	for _, ns := range [][]int{nil, {}, {0}, {1}, {-2}, {65535}, {65536}, {math.MinInt}, {math.MaxInt}, {def, def}, {def, 1}, {1, def}, {0, def, 0}, make([]int, 16), make([]int, 17), slices.Repeat([]int{def}, 17), slices.Repeat([]int{9}, 5000)} {
		checkEvent(t, seq.Csi('m', ns...), csi('m', ns...))
	}
	for i := -300; i < 70000; i++ {
		if got := seq.Csi('m', i).Params; i == def && len(got) != 0 || i != def && !slices.Equal(got, []int{i}) {
			t.Fatal(i, got)
		}
	}
	checkEvent(t, seq.Csi('m', []int{def, 7}[:1]...), csi('m'))
	checkEvent(t, seq.Csi('m', []int{7, def}[:1]...), csi('m', 7))
}

// P6.3: Set of each byte, on and off, and of modes of all lengths. They are its
// Params as they are, also just one Default.
func TestSet(t *testing.T) {
	for i := range 256 {
		b := byte(i)
		checkEvent(t, seq.Set(b, true, 25), csiWith(b, 0, 'h', 25))
		checkEvent(t, seq.Set(b, false, 1, 6), csiWith(b, 0, 'l', 1, 6))
	}
	for _, ns := range [][]int{nil, {}, {0}, {7}, {def}, {-2}, {65536}, {math.MinInt}, {math.MaxInt}, {def, def}, {1, 6, 7}, make([]int, 16), make([]int, 17), slices.Repeat([]int{9}, 5000)} {
		checkEvent(t, seq.Set('?', true, ns...), csiWith('?', 0, 'h', ns...))
		checkEvent(t, seq.Set('?', false, ns...), csiWith('?', 0, 'l', ns...))
		checkEvent(t, seq.Set(0, true, ns...), csi('h', ns...))
		checkEvent(t, seq.Set(0, false, ns...), csi('l', ns...))
	}
}

// P6.3, P6.2: what is made, and how it is printed: nothing of more than MaxParams.
func TestMadeIsPrinted(t *testing.T) {
	for _, q := range []struct {
		e    api.Event
		want string
	}{
		{seq.Csi('m'), "\x1B[m"}, {seq.Csi('m', def), "\x1B[m"}, {seq.Csi('m', 0), "\x1B[0m"}, {seq.Csi('H', 2, 3), "\x1B[2;3H"}, {seq.Csi('H', def, def), "\x1B[;H"},
		{seq.Csi('m', make([]int, 16)...), "\x1B[" + strings.Repeat("0;", 15) + "0m"}, {seq.Csi('m', make([]int, 17)...), ""}, {seq.Csi('m', 65536), ""}, {seq.Csi('m', -2), ""}, {seq.Csi('0', 1), ""}, {seq.Csi(0), ""},
		{seq.Set('?', true, 25), "\x1B[?25h"}, {seq.Set('?', false, 1, 6), "\x1B[?1;6l"}, {seq.Set(0, true, 4), "\x1B[4h"}, {seq.Set(0, false), "\x1B[l"}, {seq.Set('>', true), "\x1B[>h"},
		{seq.Set('?', true, make([]int, 17)...), ""}, {seq.Set('?', true, 65536), ""}, {seq.Set('1', true, 1), ""}, {seq.Set(' ', true, 1), ""},
	} {
		if got := seq.Print(q.e); string(got) != q.want {
			t.Errorf("%s: %q, not %q", short(q.e), got, q.want)
		}
	}
}

// checkParsed prints events that are right, and parses what was printed.
func checkParsed(t *testing.T, es ...api.Event) {
	t.Helper()
	b := seq.Print(es...)
	if got := parsed(b); !alike(got, es) {
		t.Fatalf("%d events, %q: %d events", len(es), b[:min(len(b), 100)], len(got))
	}
}

// P6.4: each event there is, but for parameters and texts, alone, and all of
// them one behind the other.
func TestPrintedIsParsed(t *testing.T) {
	var all []api.Event
	for i := range 256 {
		all = append(all, execOf(byte(i)), escOf(0, byte(i)), oscOf(string([]byte{byte(i)})), oscOf(string([]byte{'a', byte(i), 'b'})))
		for inter := range 256 {
			all = append(all, escOf(byte(inter), byte(i)))
			for _, priv := range []byte("\x00<=>?") {
				all = append(all, csiWith(priv, byte(inter), byte(i)), csiWith(priv, byte(inter), byte(i), 1, def))
			}
		}
	}
	all = slices.DeleteFunc(all, func(e api.Event) bool { return !seq.Right(e) })
	if len(all) < 63*17*5*2+79*17 {
		t.Fatal(len(all))
	}
	for _, e := range all {
		checkParsed(t, e)
	}
	checkParsed(t, all...)
	slices.Reverse(all)
	checkParsed(t, all...)
}

// P6.4: all runes, one behind the other.
func TestRunesArePrintedAndParsed(t *testing.T) {
	var all []api.Event
	for r := rune(0); r < 0x110000; r++ {
		if e := printOf(r); seq.Right(e) {
			all = append(all, e)
		}
	}
	if len(all) != 0x110000-0x800-33 {
		t.Fatal(len(all))
	}
	checkParsed(t, all...)
}

// P6.4: each number, and each length of a list and of a text.
func TestNumbersArePrintedAndParsed(t *testing.T) {
	var all []api.Event
	for n := range 65536 {
		all = append(all, csi('m', n), csiWith('?', ' ', 'm', def, n))
	}
	for n := range 4097 {
		all = append(all, oscOf(strings.Repeat("\xE4", n)))
	}
	for n := range 17 {
		for _, x := range []int{0, 9, 65535} {
			all = append(all, csi('m', slices.Repeat([]int{x}, n)...))
			if n != 1 {
				all = append(all, csi('m', slices.Repeat([]int{def}, n)...))
			}
			for i := range n {
				ns := slices.Repeat([]int{x}, n)
				ns[i] = def
				if n != 1 {
					all = append(all, csi('m', ns...))
				}
			}
		}
	}
	checkParsed(t, all...)
}

// P6.4: each two and three of some of everything, whatever stands next to it.
func TestNeighboursArePrintedAndParsed(t *testing.T) {
	es := rights()
	for _, a := range es {
		checkParsed(t, a)
		for _, b := range es {
			checkParsed(t, a, b)
			for _, c := range es {
				if len(a.Text)+len(b.Text)+len(c.Text) < 100 {
					checkParsed(t, a, b, c)
				}
			}
		}
	}
	for _, w := range wrongs() {
		if got := parsed(seq.Print(es[0], w, es[1])); !alike(got, es[:2]) {
			t.Errorf("%s: %v", short(w), got)
		}
	}
}

// R1: events of any numbers at all, alone and among others.
func TestAtRandom(t *testing.T) {
	r := rand.New(rand.NewSource(6))
	var all, right []api.Event
	for range 300000 {
		e := anyEvent(r)
		checkModel(t, e)
		if !seq.Same(e, e) {
			t.Fatalf("%s: not the same", short(e))
		}
		all = append(all, e)
		if seq.Right(e) {
			right = append(right, e)
		}
	}
	if len(right) < 1000 || !alike(parsed(seq.Print(all...)), right) {
		t.Error(len(right))
	}
}

// roomy is a copy of ns with room behind it that isn't zero.
func roomy(ns []int) []int { return append(slices.Clone(ns), 71, 72, 73, 74)[:len(ns)] }

func full(ns []int) []int { return ns[:cap(ns)] }

// R2: what is handed in stays, its spare room too.
func TestHandedInStays(t *testing.T) {
	for _, e := range append(rights(), wrongs()...) {
		e.Params = roomy(e.Params)
		f := e
		f.Params = roomy(e.Params)
		was := slices.Clone(full(e.Params))
		list := []api.Event{printOf('a'), e, f, execOf(7), oscOf("behind")}
		before := slices.Clone(list)
		seq.Right(e)
		seq.Same(e, f)
		seq.Arg(e, 0, 1, 1, 9)
		seq.Print(e)
		seq.Print(list[:3]...)
		seq.Csi('m', e.Params...)
		seq.Set('?', true, e.Params...)
		if !slices.Equal(full(e.Params), was) || !alike(list, before) {
			t.Fatalf("%s", short(e))
		}
	}
}

// R2: what Csi and Set answer isn't what they were given, and is nobody else's:
// either one is written full, and the other one stays.
func TestParamsAreNew(t *testing.T) {
	for _, ns := range [][]int{nil, {}, {def}, {1}, {1, 2}, {1, 2, 3}, slices.Repeat([]int{5}, 16), slices.Repeat([]int{5}, 17), slices.Repeat([]int{5}, 1000)} {
		for _, of := range []func(...int) api.Event{
			func(ns ...int) api.Event { return seq.Csi('m', ns...) },
			func(ns ...int) api.Event { return seq.Set('?', true, ns...) },
			func(ns ...int) api.Event { return seq.Set('?', false, ns...) },
		} {
			given := roomy(ns)
			was := slices.Clone(full(given))
			ahead := of(given...)
			want := slices.Clone(ahead.Params)
			fill(full(of(given...).Params))
			if !slices.Equal(full(given), was) || !slices.Equal(ahead.Params, want) || !slices.Equal(of(given...).Params, want) {
				t.Fatalf("%v: %v, %v", ns, given, ahead.Params)
			}
			room := slices.Clone(full(ahead.Params))
			fill(full(given))
			if !slices.Equal(full(ahead.Params), room) {
				t.Fatalf("%v: kept", ns)
			}
		}
	}
}

func fill(ns []int) {
	for i := range ns {
		ns[i] = 99
	}
}

// R2: printed bytes written full, their spare room too, leave those ahead and
// those that come later as they were, and the events too.
func TestPrintedIsNew(t *testing.T) {
	lists := [][]api.Event{nil, rights(), wrongs(), append(wrongs(), rights()...)}
	for _, e := range rights() {
		lists = append(lists, []api.Event{e}, []api.Event{e, e})
	}
	for _, es := range lists {
		before := slices.Clone(es)
		ahead := seq.Print(es...)
		want := bytes.Clone(ahead)
		b := seq.Print(es...)
		b = b[:cap(b)]
		for i := range b {
			b[i] = 'x'
		}
		if later := seq.Print(es...); !bytes.Equal(ahead, want) || !bytes.Equal(later, want) || !alike(es, before) {
			t.Fatalf("%q: %q, %q", want, ahead, later)
		}
	}
}

// The chapter's runs.
func TestRuns(t *testing.T) {
	if got := seq.Print(seq.Csi('H', 3, 4)); string(got) != "\x1B[3;4H" {
		t.Errorf("%q", got)
	}
	if got := seq.Arg(seq.Csi('H', 0), 0, 1, 1, 9); got != 1 {
		t.Error(got)
	}
}
