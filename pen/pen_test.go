package pen_test

import (
	"math"
	"math/rand"
	"slices"
	"testing"

	"linguist/api"
	"linguist/cell"
	"linguist/pen"
)

func checkApply(t *testing.T, p api.Pen, want api.Pen, params ...int) {
	t.Helper()
	if got := pen.Apply(p, params...); !like(got, want) {
		t.Errorf("%v of %v: %v, not %v", params, p, got, want)
	}
}

func checkSay(t *testing.T, p api.Pen, want ...int) {
	t.Helper()
	if got := pen.Say(p); !slices.Equal(got, want) {
		t.Errorf("%v: %v, not %v", p, got, want)
	}
}

// some is a pen of which each field can be seen to stay.
var some = api.Pen{Fore: 3, Back: 100, Flags: api.Italic | api.Hidden}

// all has all flags.
var all = api.Pen{Fore: 3, Back: 100, Flags: 255}

// inFront, inBack and flagged are p with another field.
func inFront(p api.Pen, c int) api.Pen { p.Fore = c; return p }
func inBack(p api.Pen, c int) api.Pen  { p.Back = c; return p }
func flagged(p api.Pen, f int) api.Pen { p.Flags = f; return p }

// The chapter's runs.
func TestRuns(t *testing.T) {
	p := pen.Apply(plain, 1, 38, 5, 200, 4)
	if !like(p, api.Pen{Fore: 200, Back: def, Flags: api.Bold | api.Under}) {
		t.Error(p)
	}
	checkSay(t, p, 0, 1, 4, 38, 5, 200)
}

// P10.2: none, 0 and Default are the plain pen; 0 among others, too.
func TestPlain(t *testing.T) {
	for _, p := range append(pens(), wrongPens()...) {
		checkApply(t, p, plain)
		checkApply(t, p, plain, []int{}...)
		checkApply(t, p, plain, 0)
		checkApply(t, p, plain, def)
		checkApply(t, p, plain, 1, 31, 0)
		checkApply(t, p, plain, 38, 5, 9, 48, 2, 1, 2, 3, def)
	}
	checkApply(t, some, flagged(plain, api.Under), 1, 0, 4)
	checkApply(t, some, flagged(plain, api.Under), 1, def, 4)
	checkApply(t, some, inFront(plain, 2), 0, 0, 32, 200)
	checkApply(t, some, inBack(plain, 4), 31, def, 44)
	checkApply(t, api.Pen{}, inBack(plain, 4), def, 44)
}

// P10.2: each flag is put, and taken away, and nothing else changes.
func TestFlags(t *testing.T) {
	for _, q := range []struct{ n, flag int }{
		{1, 1}, {2, 2}, {3, 4}, {4, 8}, {5, 16}, {7, 32}, {8, 64}, {9, 128},
	} {
		for _, p := range pens() {
			checkApply(t, p, flagged(p, p.Flags|q.flag), q.n)
			checkApply(t, p, flagged(p, p.Flags|q.flag), q.n, q.n)
			if q.n > 2 {
				checkApply(t, p, flagged(p, p.Flags&^q.flag), q.n+20)
				checkApply(t, p, flagged(p, p.Flags&^q.flag), q.n, q.n+20)
				checkApply(t, p, flagged(p, p.Flags|q.flag), q.n+20, q.n)
			}
		}
	}
	checkApply(t, plain, flagged(plain, api.Bold), 1)
	checkApply(t, plain, flagged(plain, api.Dim), 2)
	checkApply(t, plain, flagged(plain, api.Italic), 3)
	checkApply(t, plain, flagged(plain, api.Under), 4)
	checkApply(t, plain, flagged(plain, api.Blink), 5)
	checkApply(t, plain, flagged(plain, api.Inverse), 7)
	checkApply(t, plain, flagged(plain, api.Hidden), 8)
	checkApply(t, plain, flagged(plain, api.Strike), 9)
	checkApply(t, all, flagged(all, 255-api.Italic), 23)
	checkApply(t, all, flagged(all, 255-api.Under), 24)
	checkApply(t, all, flagged(all, 255-api.Blink), 25)
	checkApply(t, all, flagged(all, 255-api.Inverse), 27)
	checkApply(t, all, flagged(all, 255-api.Hidden), 28)
	checkApply(t, all, flagged(all, 255-api.Strike), 29)
}

// P10.2: 22 takes two away: of a pen that is bold, dim, both, neither.
func TestNormal(t *testing.T) {
	for _, f := range []int{0, api.Bold, api.Dim, api.Bold | api.Dim} {
		checkApply(t, flagged(some, f), flagged(some, 0), 22)
		checkApply(t, flagged(some, f|0xFC), flagged(some, 0xFC), 22)
		checkApply(t, flagged(some, f|api.Strike), flagged(some, api.Strike|api.Bold), 22, 1)
		checkApply(t, flagged(some, f|api.Strike), flagged(some, api.Strike|api.Dim), 22, 2)
	}
	checkApply(t, plain, plain, 1, 2, 22)
}

// P10.2: the sixteen colours, in front and in back, and Default.
func TestBasicColors(t *testing.T) {
	for c := range 8 {
		for _, p := range pens() {
			checkApply(t, p, inFront(p, c), 30+c)
			checkApply(t, p, inBack(p, c), 40+c)
			checkApply(t, p, inFront(p, 8+c), 90+c)
			checkApply(t, p, inBack(p, 8+c), 100+c)
		}
	}
	for _, p := range pens() {
		checkApply(t, p, inFront(p, def), 39)
		checkApply(t, p, inBack(p, def), 49)
		checkApply(t, p, flagged(plain, p.Flags), 39, 49)
	}
}

// P10.2: what changes nothing: named ones by hand, and all that no list names.
func TestOthers(t *testing.T) {
	others := []int{
		6, 10, 20, 21, 26, 50, 58, 59, 88, 89, 98, 99, 108, 138, 255, 256, 257, 65534, 65535,
		-2, -22, -38, -39, 256 + 22, 256 + 38, 65536, 65536 + 1, 1 << 32, 1<<32 + 1, 1<<32 + 38,
		math.MinInt, math.MinInt + 30, math.MinInt + 48, math.MinInt + 90, math.MinInt + 100, math.MaxInt - 1, math.MaxInt,
	}
	for _, n := range others {
		for _, p := range append(pens(), wrongPens()...) {
			checkApply(t, p, p, n)
		}
		checkApply(t, some, flagged(some, some.Flags|api.Bold|api.Under), 1, n, 4)
	}
}

// P10.2: each number by itself, all that a right parameter can be.
func TestEachNumber(t *testing.T) {
	for _, p := range []api.Pen{plain, some, all, flagged(some, 3), flagged(some, 1), flagged(some, 2), {Fore: 255, Back: direct(1, 2, 3), Flags: 0xA5}} {
		for n := -300; n <= api.MaxParam; n++ {
			if got, want := pen.Apply(p, n), applied(p, []int{n}); !like(got, want) {
				t.Fatalf("%d of %v: %v, not %v", n, p, got, want)
			}
		}
	}
}

// stays stands for the colour that was there ahead.
const stays = -7

// checkFurther asks of what follows 38, and of what follows 48: c is the colour
// that comes of it, behind whether what stands behind it changes the pen.

func checkFurther(t *testing.T, c int, behind bool, params ...int) {
	t.Helper()
	for _, p := range []api.Pen{plain, some, all, {Fore: 7, Back: 8}, {Fore: direct(9, 9, 9), Back: direct(8, 8, 8), Flags: 0x81}} {
		front, back := inFront(p, c), inBack(p, c)
		if c == stays {
			front, back = p, p
		}
		checkApply(t, p, front, append([]int{38}, params...)...)
		checkApply(t, p, back, append([]int{48}, params...)...)
		frontOn, backOn := front, back
		if behind {
			frontOn.Flags |= api.Under
			backOn.Flags |= api.Under
		}
		checkApply(t, p, frontOn, append([]int{38}, append(slices.Clone(params), 4)...)...)
		checkApply(t, p, backOn, append([]int{48}, append(slices.Clone(params), 4)...)...)
		frontOn.Flags |= api.Strike
		backOn.Flags |= api.Strike
		checkApply(t, p, frontOn, append([]int{9, 38}, append(slices.Clone(params), 4)...)...)
		checkApply(t, p, backOn, append([]int{9, 48}, append(slices.Clone(params), 4)...)...)
	}
}

// P10.2: 38 and 48 with 5: the indexed colours; above 255 there is none.
func TestIndexed(t *testing.T) {
	for c := range 256 {
		checkFurther(t, c, true, 5, c)
	}
	checkFurther(t, 0, true, 5, def)
	for _, c := range []int{256, 257, 300, 511, 512, 65535, 65536, direct(0, 0, 0), direct(1, 2, 3), 1 << 32, math.MaxInt} {
		checkFurther(t, stays, true, 5, c)
	}
	for _, c := range []int{-2, -3, -255, -256, -65536, math.MinInt} {
		checkFurther(t, stays, true, 5, c)
	}
	// what tells another colour is a colour here
	checkFurther(t, 38, true, 5, 38)
	checkFurther(t, 5, true, 5, 5)
	checkApply(t, some, flagged(inFront(some, 48), some.Flags|api.Blink), 38, 5, 48, 5)
}

// P10.2: 38 and 48 with 2: direct colours; none, if a part is above 255.
func TestDirect(t *testing.T) {
	for _, q := range []struct{ r, g, b, want int }{
		{0, 0, 0, 0x1000000}, {255, 0, 0, 0x1FF0000}, {0, 255, 0, 0x100FF00}, {0, 0, 255, 0x10000FF},
		{255, 255, 0, 0x1FFFF00}, {255, 0, 255, 0x1FF00FF}, {0, 255, 255, 0x100FFFF}, {255, 255, 255, 0x1FFFFFF},
		{1, 2, 3, 0x1010203}, {254, 128, 127, 0x1FE807F},
		{def, 2, 3, 0x1000203}, {1, def, 3, 0x1010003}, {1, 2, def, 0x1010200}, {def, def, def, 0x1000000},
		{256, 0, 0, stays}, {0, 256, 0, stays}, {0, 0, 256, stays},
		{256, 255, 255, stays}, {255, 256, 255, stays}, {255, 255, 256, stays}, {256, 256, 256, stays},
		{256, def, 5, stays}, {65535, 1, 1, stays}, {1, 65535, 1, stays}, {1, 1, 65535, stays},
		{1 << 32, 0, 0, stays}, {0, 1 << 32, 0, stays}, {0, 0, math.MaxInt, stays}, {math.MaxInt, math.MaxInt, math.MaxInt, stays},
		{-2, 0, 0, stays}, {0, -2, 0, stays}, {0, 0, -2, stays}, {1, -256, 1, stays}, {math.MinInt, 1, math.MinInt, stays},
	} {
		checkFurther(t, q.want, true, 2, q.r, q.g, q.b)
	}
	checkFurther(t, direct(38, 5, 2), true, 2, 38, 5, 2)
}

// P10.2: one that is cut short, or told by something else than 5 and 2: it is no
// colour, and nothing behind it is one, or a flag.
func TestCutShort(t *testing.T) {
	for _, params := range [][]int{{}, {5}, {2}, {2, 1}, {2, 1, 2}, {2, def, def}, {2, 5, 9}} {
		for _, p := range append(pens(), wrongPens()...) {
			checkApply(t, p, p, append([]int{38}, params...)...)
			checkApply(t, p, p, append([]int{48}, params...)...)
			checkApply(t, p, flagged(p, p.Flags|2), append([]int{2, 38}, params...)...)
			checkApply(t, p, flagged(p, p.Flags|2), append([]int{2, 48}, params...)...)
		}
	}
	for _, kind := range []int{0, def, 1, 3, 4, 6, 7, 9, 22, 38, 48, 31, 255, 256 + 5, 256 + 2, 65535, -2, -5, 1<<32 + 5, math.MinInt, math.MaxInt} {
		checkFurther(t, stays, false, kind)
		checkFurther(t, stays, false, kind, 1)
		checkFurther(t, stays, false, kind, 1, 2, 3)
		checkFurther(t, stays, false, kind, 0, 0, 0, 0, 31, 1, 38, 5, 3)
	}
}

// P10.2: colours behind one another, each with its own parameters.
func TestColorsBehindEachOther(t *testing.T) {
	checkApply(t, plain, api.Pen{Fore: 5, Back: 2}, 38, 5, 5, 48, 5, 2)
	checkApply(t, plain, api.Pen{Fore: direct(5, 38, 48), Back: 255, Flags: 1}, 38, 2, 5, 38, 48, 1, 48, 5, 255)
	checkApply(t, plain, api.Pen{Fore: 31, Back: direct(2, 2, 2)}, 48, 2, 2, 2, 2, 38, 5, 31)
	checkApply(t, plain, api.Pen{Fore: 1, Back: def}, 38, 5, 200, 31)
	checkApply(t, plain, api.Pen{Fore: 200, Back: def}, 31, 38, 5, 200)
	checkApply(t, plain, api.Pen{Fore: 1, Back: 3}, 31, 38, 5, 256, 43)
	checkApply(t, plain, api.Pen{Fore: 1, Back: 3}, 31, 38, 2, 256, 0, 0, 43)
	checkApply(t, plain, api.Pen{Fore: 1, Back: def}, 31, 38, 2, 0, 0)
	checkApply(t, plain, api.Pen{Fore: 7, Back: def}, 38, 5, 7, 48, 2, 7, 7)
	checkApply(t, some, plain, 38, 5, 1, 0)
	checkApply(t, some, inFront(some, 0), 38, 5, 0)
}

// P10.2: numbers by chance, from pens by chance.
func TestApplyByChance(t *testing.T) {
	chance := rand.New(rand.NewSource(102))
	for range 60000 {
		p, params := chancePen(chance), chanceParams(chance, 16)
		got, want := pen.Apply(p, params...), applied(p, params)
		if !like(got, want) {
			t.Fatalf("%v of %v: %v, not %v", params, p, got, want)
		}
		if !cell.Right(got) {
			t.Fatalf("%v of %v: %v isn't right", params, p, got)
		}
	}
}

// P10.2: pens that aren't right: what the parameters say is done, and the rest stays.
func TestApplyToWrongPens(t *testing.T) {
	chance := rand.New(rand.NewSource(103))
	for _, p := range wrongPens() {
		checkApply(t, p, flagged(p, p.Flags|api.Under), 4)
		checkApply(t, p, flagged(p, p.Flags&^(api.Bold|api.Dim)), 22)
		checkApply(t, p, inFront(p, 1), 31)
		checkApply(t, p, inBack(p, def), 49)
		checkApply(t, p, inBack(p, 255), 48, 5, 255)
		for range 300 {
			params := chanceParams(chance, 16)
			checkApply(t, p, applied(p, params), params...)
		}
	}
}

// Very many parameters are done, too, each of them.
func TestManyParams(t *testing.T) {
	var params []int
	for i := range 200000 {
		params = append(params, 38, 5, i%256, 48, 2, i%256, 1, 2, 1+i%9, 4)
	}
	last := 199999
	want := api.Pen{Fore: last % 256, Back: direct(last%256, 1, 2), Flags: 255}
	checkApply(t, plain, want, params...)
	checkApply(t, plain, plain, append(params, 0)...)
}

// P10.1: each flag by itself, and all.
func TestSayFlags(t *testing.T) {
	for _, q := range []struct{ flag, n int }{
		{api.Bold, 1}, {api.Dim, 2}, {api.Italic, 3}, {api.Under, 4},
		{api.Blink, 5}, {api.Inverse, 7}, {api.Hidden, 8}, {api.Strike, 9},
	} {
		checkSay(t, flagged(plain, q.flag), 0, q.n)
		checkSay(t, api.Pen{Fore: 1, Back: 2, Flags: q.flag}, 0, q.n, 31, 42)
	}
	checkSay(t, plain, 0)
	checkSay(t, flagged(plain, 255), 0, 1, 2, 3, 4, 5, 7, 8, 9)
	checkSay(t, flagged(plain, api.Bold|api.Dim), 0, 1, 2)
	checkSay(t, flagged(plain, api.Strike|api.Bold), 0, 1, 9)
	checkSay(t, flagged(plain, api.Blink|api.Inverse), 0, 5, 7)
}

// P10.1: colours about each edge, in front, in back, in both.
func TestSayColors(t *testing.T) {
	for _, q := range []struct {
		c           int
		front, back []int
	}{
		{def, nil, nil},
		{0, []int{30}, []int{40}}, {1, []int{31}, []int{41}}, {6, []int{36}, []int{46}}, {7, []int{37}, []int{47}},
		{8, []int{90}, []int{100}}, {9, []int{91}, []int{101}}, {14, []int{96}, []int{106}}, {15, []int{97}, []int{107}},
		{16, []int{38, 5, 16}, []int{48, 5, 16}}, {17, []int{38, 5, 17}, []int{48, 5, 17}},
		{200, []int{38, 5, 200}, []int{48, 5, 200}}, {254, []int{38, 5, 254}, []int{48, 5, 254}}, {255, []int{38, 5, 255}, []int{48, 5, 255}},
		{api.Direct, []int{38, 2, 0, 0, 0}, []int{48, 2, 0, 0, 0}},
		{api.Direct + 1, []int{38, 2, 0, 0, 1}, []int{48, 2, 0, 0, 1}},
		{api.Direct + 256, []int{38, 2, 0, 1, 0}, []int{48, 2, 0, 1, 0}},
		{api.Direct + 65536, []int{38, 2, 1, 0, 0}, []int{48, 2, 1, 0, 0}},
		{0x1FA0A14, []int{38, 2, 250, 10, 20}, []int{48, 2, 250, 10, 20}},
		{2*api.Direct - 1, []int{38, 2, 255, 255, 255}, []int{48, 2, 255, 255, 255}},
	} {
		checkSay(t, inFront(plain, q.c), append([]int{0}, q.front...)...)
		checkSay(t, inBack(plain, q.c), append([]int{0}, q.back...)...)
		checkSay(t, api.Pen{Fore: q.c, Back: q.c}, append(append([]int{0}, q.front...), q.back...)...)
		checkSay(t, api.Pen{Fore: 5, Back: q.c, Flags: 9}, append([]int{0, 1, 4, 35}, q.back...)...)
		checkSay(t, api.Pen{Fore: q.c, Back: 12, Flags: 129}, append(append([]int{0, 1, 9}, q.front...), 104)...)
	}
}

// P10.1: the longest has all flags and two direct colours.
func TestLongest(t *testing.T) {
	p := api.Pen{Fore: direct(255, 254, 253), Back: direct(252, 251, 250), Flags: 255}
	checkSay(t, p, 0, 1, 2, 3, 4, 5, 7, 8, 9, 38, 2, 255, 254, 253, 48, 2, 252, 251, 250)
	longest := 0
	for _, front := range colors() {
		for _, back := range colors() {
			for f := range 256 {
				longest = max(longest, len(pen.Say(api.Pen{Fore: front, Back: back, Flags: f})))
			}
		}
	}
	if longest != 19 {
		t.Error(longest)
	}
}

// P10.1: all flags in every set, and all indexed colours.
func TestSayAll(t *testing.T) {
	for f := range 256 {
		for c := -1; c < 256; c++ {
			p := api.Pen{Fore: c, Back: (c+2+f)%257 - 1, Flags: f}
			if got, want := pen.Say(p), said(p); !slices.Equal(got, want) {
				t.Fatalf("%v: %v, not %v", p, got, want)
			}
		}
	}
}

// P10.3: Apply of what Say says is the pen, from any pen.
func TestSaidIsApplied(t *testing.T) {
	from := append(pens(), wrongPens()...)
	for _, p := range pens() {
		for _, ahead := range from {
			checkApply(t, ahead, p, pen.Say(p)...)
		}
	}
	chance := rand.New(rand.NewSource(101))
	for range 20000 {
		ahead, p := chancePen(chance), chancePen(chance)
		params := pen.Say(p)
		if !slices.Equal(params, said(p)) || !like(pen.Apply(ahead, params...), p) || !like(applied(ahead, params), p) {
			t.Fatalf("%v of %v: %v", p, ahead, params)
		}
	}
}

// P10.1: Between the same pens there is nothing.
func TestBetweenTheSame(t *testing.T) {
	for _, p := range pens() {
		if got := pen.Between(p, p); len(got) != 0 {
			t.Errorf("%v: %v", p, got)
		}
	}
}

// P10.1: Between pens that differ in one thing alone.
func TestBetweenOneThing(t *testing.T) {
	for _, p := range pens() {
		others := []api.Pen{inFront(p, p.Fore^2), inBack(p, p.Back^2)}
		for _, c := range colors() {
			others = append(others, inFront(p, c), inBack(p, c))
		}
		for bit := range 8 {
			others = append(others, flagged(p, p.Flags^1<<bit))
		}
		for _, q := range others {
			if cell.Right(q) {
				checkBetween(t, p, q)
				checkBetween(t, q, p)
			}
		}
	}
}

// checkBetween holds what is between two pens against what is said of the second,
// and makes the one of the other by it.
func checkBetween(t *testing.T, a, b api.Pen) {
	t.Helper()
	got, want := pen.Between(a, b), said(b)
	if like(a, b) {
		want = nil
	}
	if !slices.Equal(got, want) {
		t.Fatalf("%v to %v: %v, not %v", a, b, got, want)
	}
	if len(got) > 0 {
		a = pen.Apply(a, got...)
	}
	if !like(a, b) {
		t.Fatalf("%v: %v", b, a)
	}
}

// P10.1: by hand, and by chance.
func TestBetween(t *testing.T) {
	for _, q := range []struct {
		a, b api.Pen
		want []int
	}{
		{plain, plain, nil}, {some, some, nil},
		{plain, inFront(plain, 1), []int{0, 31}}, {inFront(plain, 1), plain, []int{0}},
		{some, flagged(some, api.Italic), []int{0, 3, 33, 48, 5, 100}},
		{flagged(some, api.Italic), some, []int{0, 3, 8, 33, 48, 5, 100}},
		{inFront(plain, 1), inBack(plain, 1), []int{0, 41}},
		{inFront(plain, 0), plain, []int{0}}, {plain, inFront(plain, 0), []int{0, 30}},
		{inBack(plain, 0), plain, []int{0}}, {plain, inBack(plain, 0), []int{0, 40}},
	} {
		if got := pen.Between(q.a, q.b); !slices.Equal(got, q.want) {
			t.Errorf("%v to %v: %v, not %v", q.a, q.b, got, q.want)
		}
	}
	chance := rand.New(rand.NewSource(104))
	for range 20000 {
		checkBetween(t, chancePen(chance), chancePen(chance))
	}
}

// R1: of pens that aren't right there is an answer, too: flags and colours that
// are none aren't said.
func TestWrongPensAreSaid(t *testing.T) {
	for _, c := range wrongColors() {
		checkSay(t, inFront(plain, c), 0)
		checkSay(t, inBack(plain, c), 0)
		checkSay(t, api.Pen{Fore: c, Back: 2, Flags: 1}, 0, 1, 42)
		checkSay(t, api.Pen{Fore: 2, Back: c, Flags: 1}, 0, 1, 32)
	}
	checkSay(t, flagged(plain, 256), 0)
	checkSay(t, flagged(plain, -1), 0, 1, 2, 3, 4, 5, 7, 8, 9)
	checkSay(t, flagged(plain, math.MinInt), 0)
	for _, p := range wrongPens() {
		if got := pen.Between(p, p); len(got) != 0 {
			t.Errorf("%v: %v", p, got)
		}
		if got := pen.Between(plain, p); !slices.Equal(got, pen.Say(p)) {
			t.Errorf("%v: %v", p, got)
		}
		checkBetween(t, p, some)
	}
}

// R2: the parameters are the caller's, their spare room too; R5: what lies behind
// them isn't read.
func TestParamsStay(t *testing.T) {
	chance := rand.New(rand.NewSource(105))
	for range 5000 {
		params := chanceParams(chance, 12)
		room := append(slices.Clone(params), 5, 3, 2, 1, 1, 1)
		ahead := slices.Clone(room)
		p := chancePen(chance)
		got, want := pen.Apply(p, room[:len(params)]...), applied(p, params)
		if !slices.Equal(room, ahead) || !like(got, want) {
			t.Fatalf("%v of %v: %v, not %v; %v", params, p, got, want, room)
		}
	}
	behind := []int{38, 5, 9, 1}
	checkApply(t, some, some, behind[:1]...)
	checkApply(t, some, some, behind[:2]...)
	checkApply(t, some, inFront(some, 9), behind[:3]...)
}

// R2: what Say and Between answer is new memory each time, its spare room too.
func TestAnswersAreNew(t *testing.T) {
	for _, p := range pens() {
		for _, call := range []func() []int{
			func() []int { return pen.Say(p) },
			func() []int { return pen.Between(inFront(p, 77), p) },
		} {
			a, b := call(), call()
			a = a[:cap(a)]
			for i := range a {
				a[i] = -9
			}
			if !slices.Equal(b, said(p)) || !slices.Equal(call(), said(p)) {
				t.Fatalf("%v: %v", p, b)
			}
		}
	}
}

// Calls at random, each on what the one ahead gave: nothing is kept between them.
func TestCallsBehindEachOther(t *testing.T) {
	chance := rand.New(rand.NewSource(106))
	for range 300 {
		p, model := plain, plain
		for range 60 {
			params := chanceParams(chance, 6)
			to := chancePen(chance)
			p, model = pen.Apply(p, params...), applied(model, params)
			if !like(p, model) || !slices.Equal(pen.Say(p), said(p)) {
				t.Fatalf("%v: %v, not %v; %v", params, p, model, pen.Say(p))
			}
			checkBetween(t, p, to)
		}
	}
}
