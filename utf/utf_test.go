package utf_test

import (
	"bytes"
	"math"
	"slices"
	"testing"
	"unicode/utf8"

	"linguist/api"
	"linguist/utf"
)

const bad = rune(api.Bad)

// marks are the first and the last bytes of the chapter's ranges, those beside
// them, and some plain ones.
var marks = []byte{
	0, 27, 'A', 0x7F, 0x80, 0x81, 0x8F, 0x90, 0x9F, 0xA0, 0xBF, 0xC0, 0xC1, 0xC2, 0xC3,
	0xDF, 0xE0, 0xE1, 0xED, 0xEE, 0xEF, 0xF0, 0xF1, 0xF3, 0xF4, 0xF5, 0xF7, 0xF8, 0xFE, 0xFF,
}

// length is how many bytes the chapter says that b begins: 0, if it is Bad.
func length(b byte) int {
	switch {
	case b <= 0x7F:
		return 1
	case 0xC2 <= b && b <= 0xDF:
		return 2
	case 0xE0 <= b && b <= 0xEF:
		return 3
	case 0xF0 <= b && b <= 0xF4:
		return 4
	}
	return 0
}

// model keeps the bytes themselves, and asks the library what a whole sequence is.
type model struct{ held []byte }

func (m *model) push(b byte) (made []rune) {
	if len(m.held) > 0 && (b < 0x80 || b > 0xBF) {
		made, m.held = append(made, bad), nil
	}
	if len(m.held) == 0 {
		switch length(b) {
		case 0:
			return append(made, bad)
		case 1:
			return append(made, rune(b))
		}
	}
	m.held = append(m.held, b)
	if len(m.held) < length(m.held[0]) {
		return made
	}
	r, n := utf8.DecodeRune(m.held)
	if n != len(m.held) {
		r = bad
	}
	m.held = nil
	return append(made, r)
}

// pushed pushes all bytes of b, one by one.
func pushed(d utf.Decoder, b []byte) ([]rune, utf.Decoder) {
	var all []rune
	for _, x := range b {
		var rs []rune
		d, rs = d.Push(x)
		all = append(all, rs...)
	}
	return all, d
}

// check holds Decode, Push and Held against the model, byte by byte.
func check(t *testing.T, b []byte) {
	t.Helper()
	var m model
	var d utf.Decoder
	var want []rune
	for i, x := range b {
		next, got := d.Push(x)
		made := m.push(x)
		if !slices.Equal(got, made) || next.Held() != (len(m.held) > 0) {
			t.Fatalf("% X, byte %d: %X, held %v; not %X, %X", b, i, got, next.Held(), made, m.held)
		}
		d, want = next, append(want, made...)
	}
	got, behind := utf.Decode(b)
	if !slices.Equal(got, want) || behind != d {
		t.Fatalf("% X: %X, %v; not %X, %v", b, got, behind, want, d)
	}
}

// P1.1, nothing held: each byte there is.
func TestPushOntoNothing(t *testing.T) {
	for i := range 256 {
		b := byte(i)
		d, got := utf.Decoder{}.Push(b)
		n := length(b)
		var want []rune
		if n == 0 {
			want = []rune{bad}
		} else if n == 1 {
			want = []rune{rune(b)}
		}
		if !slices.Equal(got, want) || d.Held() != (n > 1) {
			t.Errorf("%X: %X, held %v", b, got, d.Held())
		}
	}
}

// P1.1, nothing held any more: the decoder is as good as a new one.
func TestPushHoldsNothingBehindARune(t *testing.T) {
	for _, b := range [][]byte{{'a'}, {0xC3, 0xA4}, {0xED, 0xA0, 0x80}, {0xC3, 'a'}, {0xFF}, {0xE4, 0xFF}} {
		if _, d := pushed(utf.Decoder{}, b); d.Held() || d != (utf.Decoder{}) {
			t.Errorf("% X: %v", b, d)
		}
	}
}

// P1.1, something held: which bytes continue it, how much of them counts, and
// what is too short, too great, or half of a pair.
func TestPushOntoSequences(t *testing.T) {
	for _, q := range []struct {
		b    []byte
		want []rune
	}{
		{[]byte{0xC2, 0x80}, []rune{0x80}},
		{[]byte{0xC3, 0xA4}, []rune{0xE4}},
		{[]byte{0xDF, 0xBF}, []rune{0x7FF}},
		{[]byte{0xC0, 0xAF}, []rune{bad, bad}},
		{[]byte{0xC1, 0xBF}, []rune{bad, bad}},
		{[]byte{0xE0, 0x80, 0x80}, []rune{bad}},
		{[]byte{0xE0, 0x9F, 0xBF}, []rune{bad}},
		{[]byte{0xE0, 0xA0, 0x80}, []rune{0x800}},
		{[]byte{0xE4, 0xB8, 0x80}, []rune{0x4E00}},
		{[]byte{0xED, 0x9F, 0xBF}, []rune{0xD7FF}},
		{[]byte{0xED, 0xA0, 0x80}, []rune{bad}},
		{[]byte{0xED, 0xAF, 0xBF}, []rune{bad}},
		{[]byte{0xED, 0xB0, 0x80}, []rune{bad}},
		{[]byte{0xED, 0xBF, 0xBF}, []rune{bad}},
		{[]byte{0xEE, 0x80, 0x80}, []rune{0xE000}},
		{[]byte{0xEF, 0xBF, 0xBD}, []rune{bad}},
		{[]byte{0xEF, 0xBF, 0xBF}, []rune{0xFFFF}},
		{[]byte{0xF0, 0x80, 0x80, 0x80}, []rune{bad}},
		{[]byte{0xF0, 0x8F, 0xBF, 0xBF}, []rune{bad}},
		{[]byte{0xF0, 0x90, 0x80, 0x80}, []rune{0x10000}},
		{[]byte{0xF0, 0x9F, 0x98, 0x80}, []rune{0x1F600}},
		{[]byte{0xF4, 0x8F, 0xBF, 0xBF}, []rune{api.MaxRune}},
		{[]byte{0xF4, 0x90, 0x80, 0x80}, []rune{bad}},
		{[]byte{0xF4, 0xBF, 0xBF, 0xBF}, []rune{bad}},
		{[]byte{0xF5, 0x80, 0x80, 0x80}, []rune{bad, bad, bad, bad}},
		{[]byte{0x80, 0xBF}, []rune{bad, bad}},
	} {
		got, d := pushed(utf.Decoder{}, q.b)
		if !slices.Equal(got, q.want) || d.Held() {
			t.Errorf("% X: %X, held %v, not %X", q.b, got, d.Held(), q.want)
		}
	}
}

// P1.1, a sequence broken: one Bad for all that is held, and the byte is taken
// where nothing is held, whether it is plain, begins another, or begins nothing.
func TestPushBreaksASequence(t *testing.T) {
	for _, begun := range [][]byte{
		{0xC2}, {0xDF}, {0xE0}, {0xE4, 0xB8}, {0xEF, 0xBF}, {0xF0}, {0xF0, 0x9F}, {0xF4, 0x8F, 0xBF},
	} {
		for i := range 256 {
			b := byte(i)
			if b >= 0x80 && b <= 0xBF {
				continue
			}
			_, held := pushed(utf.Decoder{}, begun)
			d, got := held.Push(b)
			alone, rs := utf.Decoder{}.Push(b)
			if want := append([]rune{bad}, rs...); !slices.Equal(got, want) || d != alone {
				t.Fatalf("% X, %X: %X, %v; not %X, %v", begun, b, got, d, want, alone)
			}
		}
	}
}

// P1.1: Held is true from a sequence's first byte to the one ahead of its last.
func TestHeld(t *testing.T) {
	if (utf.Decoder{}).Held() {
		t.Error("zero")
	}
	for _, r := range []rune{0x7F, 0x80, 0x7FF, 0x800, 0xFFFF, 0x10000, api.MaxRune} {
		b := []byte(string(r))
		for k := range len(b) + 1 {
			rs, d := pushed(utf.Decoder{}, b[:k])
			if d.Held() != (k > 0 && k < len(b)) || (len(rs) > 0) != (k == len(b)) {
				t.Errorf("%X, %d bytes: %X, %v", r, k, rs, d)
			}
		}
	}
}

// P1.1, P1.2: all pairs of bytes, and all fours of those at the ranges' ends.
func TestAgainstModel(t *testing.T) {
	check(t, nil)
	for i := range 256 {
		for j := range 256 {
			check(t, []byte{byte(i), byte(j)})
			check(t, []byte{byte(i), byte(j), 0x80, 0xBF, 'a'})
		}
	}
	for _, a := range marks {
		for _, b := range marks {
			for _, c := range marks {
				for _, d := range marks {
					check(t, []byte{a, b, c, d})
				}
			}
		}
	}
}

// P1.2: nothing of nothing, and what is left of a sequence cut off is held.
func TestDecode(t *testing.T) {
	for _, b := range [][]byte{nil, {}} {
		if got, d := utf.Decode(b); len(got) != 0 || d != (utf.Decoder{}) {
			t.Error(got, d)
		}
	}
	got, d := utf.Decode([]byte{'a', 0xC3, 'b', 0xE4, 0xB8})
	if !slices.Equal(got, []rune{'a', bad, 'b'}) || !d.Held() {
		t.Errorf("%X, %v", got, d)
	}
	if _, rs := d.Push(0x80); !slices.Equal(rs, []rune{0x4E00}) {
		t.Errorf("%X", rs)
	}
}

// P1.3: at each length's least and greatest rune, and what is none.
func TestEncode(t *testing.T) {
	for _, q := range []struct {
		r    rune
		want []byte
	}{
		{0, []byte{0}}, {'a', []byte{'a'}}, {0x7F, []byte{0x7F}},
		{0x80, []byte{0xC2, 0x80}}, {0xE4, []byte{0xC3, 0xA4}}, {0x7FF, []byte{0xDF, 0xBF}},
		{0x800, []byte{0xE0, 0xA0, 0x80}}, {0x4E00, []byte{0xE4, 0xB8, 0x80}}, {0xD7FF, []byte{0xED, 0x9F, 0xBF}},
		{0xE000, []byte{0xEE, 0x80, 0x80}}, {bad, []byte{0xEF, 0xBF, 0xBD}}, {0xFFFF, []byte{0xEF, 0xBF, 0xBF}},
		{0x10000, []byte{0xF0, 0x90, 0x80, 0x80}}, {0x1F600, []byte{0xF0, 0x9F, 0x98, 0x80}},
		{api.MaxRune, []byte{0xF4, 0x8F, 0xBF, 0xBF}},
	} {
		if got := utf.Encode(q.r); !bytes.Equal(got, q.want) {
			t.Errorf("%X: % X, not % X", q.r, got, q.want)
		}
	}
	for _, r := range []rune{-1, math.MinInt32, 0xD800, 0xDBFF, 0xDC00, 0xDFFF, api.MaxRune + 1, 0x1FFFFF, math.MaxInt32} {
		if got := utf.Encode(r); !bytes.Equal(got, []byte{0xEF, 0xBF, 0xBD}) {
			t.Errorf("%X: % X", r, got)
		}
	}
}

// P1.3: of none, of nil and of several.
func TestEncodeSeveral(t *testing.T) {
	if len(utf.Encode()) != 0 || len(utf.Encode(nil...)) != 0 || len(utf.Encode([]rune{}...)) != 0 {
		t.Error("none")
	}
	want := []byte{'a', 0xC3, 0xA4, 0xEF, 0xBF, 0xBD, 0xE4, 0xB8, 0x80, 0xF0, 0x9F, 0x98, 0x80, 'z'}
	if got := utf.Encode('a', 0xE4, 0xDFFF, 0x4E00, 0x1F600, 'z'); !bytes.Equal(got, want) {
		t.Errorf("% X", got)
	}
}

// P1.3, P1.4: every rune, and the numbers among them that are none.
func TestEncodedAreDecoded(t *testing.T) {
	for r := rune(0); r <= api.MaxRune; r++ {
		want := r
		if r >= 0xD800 && r <= 0xDFFF {
			want = bad
		}
		b := utf.Encode(r)
		if !bytes.Equal(b, []byte(string(want))) {
			t.Fatalf("%X: % X", r, b)
		}
		got, d := utf.Decode(b)
		if len(got) != 1 || got[0] != want || d.Held() {
			t.Fatalf("%X: % X, %X, %v", r, b, got, d)
		}
	}
}

// P1.4: cut at each two places, right ones and broken ones.
func TestCutAnywhere(t *testing.T) {
	b := utf.Encode('a', 0x80, 0x7FF, 'b', 0x800, 0xFFFF, 0x10000, 0x1F600, api.MaxRune)
	b = append(b, 0xE4, 0xB8, 27, 0xF0, 0x9F, 0xC3, 0xA4, 0x80, 0xED, 0xA0, 0x80, 0xC3, 0xFF, 0xF4, 0x90, 0x80, 0x80, 0xF0, 0x9F)
	want, behind := utf.Decode(b)
	for i := range len(b) + 1 {
		for j := i; j <= len(b); j++ {
			got, d := utf.Decode(b[:i])
			for _, part := range [][]byte{b[i:j], b[j:]} {
				var more []rune
				more, d = pushed(d, part)
				got = append(got, more...)
			}
			if !slices.Equal(got, want) || d != behind {
				t.Fatalf("%d, %d: %X, %v", i, j, got, d)
			}
		}
	}
}

// R1: a decoder that no call made ends, too.
func TestStrangeDecodersEnd(t *testing.T) {
	odd := []int{math.MinInt, -1, 0, 1, 2, 3, 4, 5, 64, math.MaxInt}
	for _, need := range odd {
		for _, have := range odd {
			for _, acc := range odd {
				d := utf.Decoder{Need: need, Have: have, Acc: acc}
				d.Held()
				pushed(d, marks)
			}
		}
	}
}

// R2: what is handed in stays, its spare room too, and no two answers share.
func TestNothingIsShared(t *testing.T) {
	room := []byte{0xE4, 0xB8, 0x80, 0xC3, 1, 2, 3}
	b := room[:4]
	first, _ := utf.Decode(b)
	first = first[:cap(first)]
	for i := range first {
		first[i] = 7
	}
	second, held := utf.Decode(b)
	if !slices.Equal(second, []rune{0x4E00}) || !bytes.Equal(room, []byte{0xE4, 0xB8, 0x80, 0xC3, 1, 2, 3}) {
		t.Errorf("%X, % X", second, room)
	}
	_, x := held.Push('x')
	_, y := held.Push('y')
	x[0], x[1] = 7, 7
	if !slices.Equal(y, []rune{bad, 'y'}) {
		t.Errorf("%X", y)
	}
	runes := []rune{0xD800, 'a', -1, 5}
	utf.Encode(runes[:3]...)[0] = 7
	if !slices.Equal(runes, []rune{0xD800, 'a', -1, 5}) || utf.Encode(runes[:3]...)[0] != 0xEF {
		t.Errorf("%X", runes)
	}
}

// The chapter's runs.
func TestRuns(t *testing.T) {
	for _, q := range []struct {
		b    []byte
		want []rune
		held bool
	}{
		{[]byte{0xC3, 0xA4}, []rune{0xE4}, false},
		{[]byte{0xC3, 0x41}, []rune{bad, 0x41}, false},
		{[]byte{0xE4, 0xB8}, nil, true},
		{[]byte{0xED, 0xA0, 0x80}, []rune{bad}, false},
	} {
		if got, d := utf.Decode(q.b); !slices.Equal(got, q.want) || d.Held() != q.held {
			t.Errorf("% X: %X, %v", q.b, got, d)
		}
	}
}
