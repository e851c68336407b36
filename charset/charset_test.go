package charset_test

import (
	"math"
	"slices"
	"testing"

	"linguist/api"
	"linguist/charset"
)

// The bytes that are drawn, as the chapter names them.
const first, last = 0x60, 0x7E

// drawn are P4.1's runes, as it writes them.
func drawn() []rune {
	return []rune{
		0x25C6, 0x2592, 0x2409, 0x240C, 0x240D, 0x240A, 0xB0, 0xB1, 0x2424, 0x240B, 0x2518, 0x2510, 0x250C, 0x2514,
		0x253C, 0x23BA, 0x23BB, 0x2500, 0x23BC, 0x23BD, 0x251C, 0x2524, 0x2534, 0x252C, 0x2502, 0x2264, 0x2265, 0x3C0,
		0x2260, 0xA3, 0xB7,
	}
}

// plain are P4.3's bytes of them, as it writes these, the point for "a point".
const plain = "* # H F C L o + N V + + + + + - - - - _ + + + + | < > p ! L ."

// plainOf is the plain byte of the n-th of them: a blank stands between each two.
func plainOf(n int) byte { return plain[2*n] }

// strange are runes that are none: below nought, above MaxRune, halves of pairs,
// the ends of what a rune can hold; and those that would be others, if some of
// their bits fell off.
func strange() []rune {
	all := []rune{
		math.MinInt32, math.MinInt32 + 1, -0x110000, -0x10000, -256, -128, -2, -1,
		0xD800, 0xDBFF, 0xDC00, 0xDFFF,
		api.MaxRune + 1, api.MaxRune + 2, 0x1FFFFF, 1 << 21, 1 << 24, math.MaxInt32 - 1, math.MaxInt32,
	}
	for _, r := range append(drawn(), ' ', '?', 'A', 'q', '~') {
		all = append(all, -r, ^r, r|math.MinInt32, r+1<<21, r+1<<24, r+1<<30, r-1<<16, r-1<<24)
	}
	return all
}

// wantDraw is P4.2's rune of a byte.
func wantDraw(b byte) rune {
	switch {
	case b == 0x5F:
		return 32
	case b >= first && b <= last:
		return drawn()[int(b)-first]
	}
	return rune(b)
}

// wantPlain is P4.3's byte of a rune, of which place says where it is drawn.
func wantPlain(r rune, place int) byte {
	if place >= 0 {
		return plainOf(place)
	}
	if r >= 32 && r <= 126 {
		return byte(r)
	}
	return '?'
}

// hold holds Undraw and Plain of one rune against the chapter; place is where
// the rune stands among the drawn ones, -1 if nowhere.
func hold(t *testing.T, r rune, place int) {
	t.Helper()
	var b byte
	if place >= 0 {
		b = byte(first + place)
	}
	if got, ok := charset.Undraw(r); got != b || ok != (place >= 0) {
		t.Fatalf("Undraw %X: %X, %v, not %X", r, got, ok, b)
	}
	if got, want := charset.Plain(r), wantPlain(r, place); got != want {
		t.Fatalf("Plain %X: %q, not %q", r, got, want)
	}
}

// P4.1: whole, in its order.
func TestDrawn(t *testing.T) {
	want := drawn()
	if len(want) != last-first+1 || len(plain) != 2*len(want)-1 {
		t.Fatal(len(want), len(plain))
	}
	if got := charset.Drawn(); !slices.Equal(got, want) {
		t.Errorf("%X, not %X", got, want)
	}
}

// P4.1: each one, by the byte that stands for it.
func TestDrawnByByte(t *testing.T) {
	got := charset.Drawn()
	for _, q := range []struct {
		b byte
		r rune
	}{
		{'`', 0x25C6}, {'a', 0x2592}, {'b', 0x2409}, {'c', 0x240C}, {'d', 0x240D}, {'e', 0x240A}, {'f', 0xB0}, {'g', 0xB1},
		{'h', 0x2424}, {'i', 0x240B}, {'j', 0x2518}, {'k', 0x2510}, {'l', 0x250C}, {'m', 0x2514}, {'n', 0x253C}, {'o', 0x23BA},
		{'p', 0x23BB}, {'q', 0x2500}, {'r', 0x23BC}, {'s', 0x23BD}, {'t', 0x251C}, {'u', 0x2524}, {'v', 0x2534}, {'w', 0x252C},
		{'x', 0x2502}, {'y', 0x2264}, {'z', 0x2265}, {'{', 0x3C0}, {'|', 0x2260}, {'}', 0xA3}, {'~', 0xB7},
	} {
		if n := int(q.b) - first; n >= len(got) || got[n] != q.r {
			t.Fatalf("%c: not %X: %X", q.b, q.r, got)
		}
		if r := charset.Draw(q.b); r != q.r {
			t.Errorf("%c: %X, not %X", q.b, r, q.r)
		}
	}
}

// fill writes n all over a list, its spare room too, and gives all of it.
func fill(list []rune, n rune) []rune {
	list = list[:cap(list)]
	for i := range list {
		list[i] = n
	}
	return list
}

// onlyOf tells whether nothing but n stands in a list.
func onlyOf(list []rune, n rune) bool {
	return !slices.ContainsFunc(list, func(r rune) bool { return r != n })
}

// P4.1, R2: an answer written full, its spare room too, leaves those ahead of it
// and the next one as they were, and what the other calls answer; nor does a
// later call write into it.
func TestDrawnIsNewEachTime(t *testing.T) {
	ahead := charset.Drawn()
	full := fill(charset.Drawn(), 7)
	if !slices.Equal(ahead, drawn()) {
		t.Errorf("ahead: %X", ahead)
	}
	next := charset.Drawn()
	if !slices.Equal(next, drawn()) || !onlyOf(full, 7) {
		t.Errorf("next: %X, %X", next, full)
	}
	if again := fill(next, 9); !onlyOf(full, 7) || !onlyOf(again, 9) || !slices.Equal(ahead, drawn()) {
		t.Errorf("again: %X, %X, %X", full, again, ahead)
	}
	for n, r := range drawn() {
		hold(t, r, n)
		if b := byte(first + n); charset.Draw(b) != r {
			t.Errorf("%X: %X", b, charset.Draw(b))
		}
	}
}

// P4.2: the bytes at the edges, and those beside them.
func TestDrawAtEdges(t *testing.T) {
	for _, q := range []struct {
		b    byte
		want rune
	}{
		{0, 0}, {1, 1}, {27, 27}, {31, 31}, {32, 32}, {'0', '0'}, {'A', 'A'}, {'Z', 'Z'}, {0x5E, 0x5E}, {0x5F, 32},
		{0x60, 0x25C6}, {0x61, 0x2592}, {0x7D, 0xA3}, {0x7E, 0xB7}, {0x7F, 0x7F},
		{0x80, 0x80}, {0x9F, 0x9F}, {0xA3, 0xA3}, {0xB7, 0xB7}, {0xDF, 0xDF}, {0xE0, 0xE0}, {0xFE, 0xFE}, {0xFF, 0xFF},
	} {
		if got := charset.Draw(q.b); got != q.want {
			t.Errorf("%X: %X, not %X", q.b, got, q.want)
		}
	}
}

// P4.2: every byte.
func TestDrawOfAll(t *testing.T) {
	for i := range 256 {
		b := byte(i)
		if got, want := charset.Draw(b), wantDraw(b); got != want {
			t.Errorf("%X: %X, not %X", b, got, want)
		}
	}
}

// P4.2: each drawn rune comes back to its byte.
func TestUndraw(t *testing.T) {
	for n, r := range drawn() {
		want := byte(first + n)
		if b, ok := charset.Undraw(r); b != want || !ok {
			t.Errorf("%X: %X, %v, not %X", r, b, ok, want)
		}
	}
}

// P4.2: every byte drawn, and that rune undrawn: 60 to 7E come back as they were,
// four higher ones are runes that others of these draw, and nothing else is any.
func TestUndrawOfDraw(t *testing.T) {
	shared := map[byte]byte{0xA3: '}', 0xB0: 'f', 0xB1: 'g', 0xB7: '~'}
	for i := range 256 {
		b := byte(i)
		want, drawable := shared[b]
		if b >= first && b <= last {
			want, drawable = b, true
		}
		if got, ok := charset.Undraw(charset.Draw(b)); got != want || ok != drawable {
			t.Errorf("%X: %X, %v, not %X", b, got, ok, want)
		}
	}
}

// P4.2: 0 beside false: of the blank, of the runes beside each drawn one, of
// what ASCII has, and of the nought.
func TestUndrawOfOthers(t *testing.T) {
	others := []rune{0, 31, ' ', '?', '_', '`', 'q', '~', 0x7F, 0x80, 0xA0, 0xFF, 0x100, 0x4E00, api.Bad, api.MaxRune}
	for _, r := range drawn() {
		others = append(others, r-1, r+1)
	}
	for _, r := range others {
		if slices.Contains(drawn(), r) {
			continue
		}
		if b, ok := charset.Undraw(r); b != 0 || ok {
			t.Errorf("%X: %X, %v", r, b, ok)
		}
	}
}

// P4.3: 32 to 126 are themselves, and what is beside them isn't.
func TestPlainAtEdges(t *testing.T) {
	for _, q := range []struct {
		r    rune
		want byte
	}{
		{0, '?'}, {7, '?'}, {10, '?'}, {27, '?'}, {31, '?'}, {32, ' '}, {33, '!'}, {'?', '?'}, {'A', 'A'}, {'_', '_'},
		{'`', '`'}, {'q', 'q'}, {125, '}'}, {126, '~'}, {127, '?'}, {128, '?'}, {159, '?'}, {160, '?'},
		{0xA2, '?'}, {0xA4, '?'}, {0xE4, '?'}, {0xFF, '?'}, {0x120, '?'}, {0x141, '?'}, {0x301, '?'},
		{0x2501, '?'}, {0x4E00, '?'}, {api.Bad, '?'}, {0x1F600, '?'}, {api.MaxRune, '?'},
	} {
		if got := charset.Plain(q.r); got != q.want {
			t.Errorf("%X: %q, not %q", q.r, got, q.want)
		}
	}
}

// P4.3: each drawn rune's own byte.
func TestPlainOfDrawn(t *testing.T) {
	for n, r := range drawn() {
		if got := charset.Plain(r); got != plainOf(n) {
			t.Errorf("%X: %q, not %q", r, got, plainOf(n))
		}
	}
	for _, q := range []struct {
		r    rune
		want byte
	}{
		{0x25C6, '*'}, {0x2592, '#'}, {0x2409, 'H'}, {0x240A, 'L'}, {0xB0, 'o'}, {0xB1, '+'}, {0x240B, 'V'},
		{0x253C, '+'}, {0x23BA, '-'}, {0x23BC, '-'}, {0x23BD, '_'}, {0x251C, '+'}, {0x252C, '+'}, {0x2502, '|'},
		{0x2264, '<'}, {0x2265, '>'}, {0x3C0, 'p'}, {0x2260, '!'}, {0xA3, 'L'}, {0xB7, '.'},
	} {
		if got := charset.Plain(q.r); got != q.want {
			t.Errorf("%X: %q, not %q", q.r, got, q.want)
		}
	}
}

// P4.2, P4.3: every rune, and the numbers on both sides that are none.
func TestUndrawAndPlainOfAll(t *testing.T) {
	places := make(map[rune]int)
	for n, r := range drawn() {
		places[r] = n
	}
	for r := rune(-0x3000); r <= api.MaxRune+0x3000; r++ {
		place, ok := places[r]
		if !ok {
			place = -1
		}
		hold(t, r, place)
	}
}

// P4.2, P4.3, R1: runes that are none are undrawn, and have the plain byte of
// what is unknown.
func TestUndrawAndPlainOfStrange(t *testing.T) {
	for _, r := range strange() {
		hold(t, r, -1)
	}
}

// The chapter's runs.
func TestRuns(t *testing.T) {
	if r := charset.Draw('q'); r != 0x2500 {
		t.Errorf("%X", r)
	}
	if b, ok := charset.Undraw(0x2500); b != 'q' || !ok {
		t.Errorf("%q, %v", b, ok)
	}
	if a, b := charset.Plain(0x2500), charset.Plain(0x4E00); a != '-' || b != '?' {
		t.Errorf("%q, %q", a, b)
	}
}
