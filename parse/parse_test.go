package parse_test

import (
	"bytes"
	"math/rand"
	"slices"
	"strings"
	"testing"

	"linguist/api"
	"linguist/parse"
)

const (
	def = -1
	bad = 0xFFFD
)

func printOf(r rune) api.Event        { return api.Event{Kind: api.EPrint, Rune: r} }
func execOf(b byte) api.Event         { return api.Event{Kind: api.EExec, Final: b} }
func escOf(inter, b byte) api.Event   { return api.Event{Kind: api.EEsc, Inter: inter, Final: b} }
func oscOf(s string) api.Event        { return api.Event{Kind: api.EOsc, Text: s} }
func csi(b byte, ns ...int) api.Event { return api.Event{Kind: api.ECsi, Params: ns, Final: b} }

// csiWith is one with what may stand about its parameters, too.
func csiWith(priv, inter, b byte, ns ...int) api.Event {
	return api.Event{Kind: api.ECsi, Priv: priv, Params: ns, Inter: inter, Final: b}
}

func events(es ...api.Event) []api.Event { return es }

// same tells whether two events are alike in all that is in them.
func same(a, b api.Event) bool {
	return a.Kind == b.Kind && a.Rune == b.Rune && a.Priv == b.Priv && a.Inter == b.Inter && a.Final == b.Final &&
		a.Text == b.Text && slices.Equal(a.Params, b.Params)
}

func alike(a, b []api.Event) bool { return slices.EqualFunc(a, b, same) }

// sample is a stream, and what the document says comes of it.
type sample struct {
	in     string
	want   []api.Event
	ground bool
}

// try holds samples against the parser, fed whole and byte by byte.
func try(t *testing.T, all []sample) {
	t.Helper()
	for _, q := range all {
		p := parse.New()
		if got := p.Feed([]byte(q.in)); !alike(got, q.want) || p.Ground() != q.ground {
			t.Errorf("%q: %v, ground %v; not %v", short(q.in), got, p.Ground(), q.want)
		}
		p = parse.New()
		if got := pushed(p, q.in); !alike(got, q.want) || p.Ground() != q.ground {
			t.Errorf("%q pushed: %v, ground %v; not %v", short(q.in), got, p.Ground(), q.want)
		}
	}
}

func short(s string) string { return s[:min(len(s), 100)] }

// pushed pushes all bytes of s, one by one.
func pushed(p *parse.Parser, s string) (all []api.Event) {
	for _, b := range []byte(s) {
		all = append(all, p.Push(b)...)
	}
	return all
}

// check holds the parser against the model, byte by byte, and Feed against both.
func check(t *testing.T, s string) []api.Event {
	t.Helper()
	var m model
	p := parse.New()
	var all []api.Event
	for i, b := range []byte(s) {
		got, want := p.Push(b), m.push(b)
		if !alike(got, want) || p.Ground() != m.ground() {
			t.Fatalf("%q, byte %d: %v, ground %v; not %v", short(s), i, got, p.Ground(), want)
		}
		all = append(all, got...)
	}
	p = parse.New()
	if got := p.Feed([]byte(s)); !alike(got, all) || p.Ground() != m.ground() {
		t.Fatalf("%q: %v, not %v", short(s), got, all)
	}
	return all
}

// begun are streams that lead to every place a parser can be in.
func begun() []string {
	return []string{
		"", "a", "\xC3", "\xE4", "\xE4\xB8", "\xF0\x9F\x98", "\xFF",
		"\x1B", "\x1B\x07", "\x1B\x7F", "\x1B(", "\x1B ", "\x1B/\n", "\x1B()", "\x1B(((",
		"\x1B[", "\x1B[\r", "\x1B[?", "\x1B[<\t", "\x1B[1", "\x1B[;", "\x1B[1;", "\x1B[12;34", "\x1B[>1;2",
		"\x1B[ ", "\x1B[1!", "\x1B[?1$", "\x1B[/\b", "\x1B[:", "\x1B[1:2", "\x1B[1?", "\x1B[??", "\x1B[!1", "\x1B[!;", "\x1B[!:", "\x1B[!?", "\x1B[!!",
		"\x1B[" + strings.Repeat(";", 14), "\x1B[" + strings.Repeat(";", 15), "\x1B[" + strings.Repeat(";", 16), "\x1B[6553", "\x1B[65535", "\x1B[99999",
		"\x1B]", "\x1B]0;a", "\x1B]a\n", "\x1B]\xC3", "\x1B]a\x1B", "\x1B]\x7F\x1B",
		"\x1BP", "\x1BPa", "\x1BX\xC3", "\x1B^\n", "\x1B_a\x1B", "\x1BP\x1B", "\x1B(\x1B", "\x1B[1;2\x1B",
		"\x1B]" + strings.Repeat("a", 4095), "\x1B]" + strings.Repeat("b", 4096), "\x1B]" + strings.Repeat("c", 4097),
		"\x1B]" + strings.Repeat("d", 4096) + "\x1B",
	}
}

// behind are streams that show where a parser was.
func behind() []string {
	return []string{"", "m", "1m", ";m", "\\", "\x1B\\", "\x07", "\x84\xA4", "(0", "\x18z", "\x1B[3m", "a\x1B]b\x07c"}
}

// P5.1: a new one is in the ground, holds nothing, and answers nothing of nothing.
func TestNew(t *testing.T) {
	p := parse.New()
	if !p.Ground() || len(p.Feed(nil)) != 0 || len(p.Feed([]byte{})) != 0 || !p.Ground() {
		t.Error("not new")
	}
	if got := p.Push('a'); !alike(got, events(printOf('a'))) {
		t.Error(got)
	}
	if q := parse.New(); q == p || len(p.Push(27)) != 0 || !q.Ground() || p.Ground() {
		t.Error("shared")
	}
}

// P5.1: at each place of these, is anything begun?
func TestGroundAtEachPlace(t *testing.T) {
	for _, q := range []struct{ in, ground string }{
		{"ab\x07\x7F\x18\x1A", "yyyyyy"},
		{"\xC3\xA4a\xE4\xB8\x80", "nyynny"},
		{"\xC3a\xC3\x07\xC3\x18\xC3\x7F\xC3\x1B", "nynynynynn"},
		{"\xFF\x80\xC3\xC3\xFF", "yynny"},
		{"\x1B\x07\x7FDa", "nnnyy"},
		{"\x1B(0a", "nnyy"},
		{"\x1B(((0a", "nnnnyy"},
		{"\x1B[?1;2$pa", "nnnnnnnyy"},
		{"\x1B[1:?;ma", "nnnnnnyy"},
		{"\x1B\x18\x1B(\x1A\x1B[1\x18\x1B[:\x1A", "nynnynnnynnny"},
		{"\x1B\xC3\xA4\x1B[1\xFF\x1B(\x80", "nnynnnynny"},
		{"\x1B]a\x18\x1B]a\x1A\x1B]a\x07", "nnnynnnynnny"},
		{"\x1B]a\x1B\\a", "nnnnyy"},
		{"\x1BPa\x1B\\\x1BX\x07\x1B^\x18\x1B_\x1A", "nnnnynnynnynny"},
		{"\x1B]a\x1B[1m\x1B]\x1B\x18\x1BP\x1B\x1BD", "nnnnnnynnnynnnny"},
		{"\x1B]\xC3\xA4\xFF\x7F\x07", "nnnnnny"},
	} {
		p := parse.New()
		var got string
		for _, b := range []byte(q.in) {
			p.Push(b)
			got += map[bool]string{true: "y", false: "n"}[p.Ground()]
		}
		if got != q.ground {
			t.Errorf("%q: %s, not %s", q.in, got, q.ground)
		}
	}
}

// P5.2: each byte in the ground that begins nothing, twice.
func TestGround(t *testing.T) {
	for i := range 128 {
		if i == 27 {
			continue
		}
		b := byte(i)
		var want []api.Event
		switch {
		case b == 24 || b == 26 || b == 127:
		case b < 32:
			want = events(execOf(b), execOf(b))
		default:
			want = events(printOf(rune(b)), printOf(rune(b)))
		}
		try(t, []sample{{string([]byte{b, b}), want, true}})
	}
}

// P5.2: runes, whole ones, broken ones, and those that are cut off.
func TestRunes(t *testing.T) {
	try(t, []sample{
		{"\xC3\xA4", events(printOf(0xE4)), true},
		{"\xC2\x80\xC2\x9B", events(printOf(0x80), printOf(0x9B)), true},
		{"a\xE4\xB8\x80b", events(printOf('a'), printOf(0x4E00), printOf('b')), true},
		{"\xF4\x8F\xBF\xBF", events(printOf(0x10FFFF)), true},
		{"\xF0\x9F\x98", nil, false},
		{"\x80\xFF", events(printOf(bad), printOf(bad)), true},
		{"\xED\xA0\x80", events(printOf(bad)), true},
		{"\xE4\xFF", events(printOf(bad), printOf(bad)), true},
		{"\xE4\xC3\xA4", events(printOf(bad), printOf(0xE4)), true},
		{"\xC3a", events(printOf(bad), printOf('a')), true},
		{"\xE4\xB8~", events(printOf(bad), printOf('~')), true},
		{"\xF0\x9F\x98 ", events(printOf(bad), printOf(' ')), true},
		{"\xC3\n", events(printOf(bad), execOf('\n')), true},
		{"\xC3\x00", events(printOf(bad), execOf(0)), true},
		{"\xC3\x1F", events(printOf(bad), execOf(31)), true},
		{"\xC3\x18", events(printOf(bad)), true},
		{"\xE4\xB8\x1A", events(printOf(bad)), true},
		{"\xC3\x7F", events(printOf(bad)), true},
		{"\xC3\x1B", events(printOf(bad)), false},
		{"\xE4\xB8\x1B[m", events(printOf(bad), csi('m')), true},
		{"\xC3\x1B\xC3\xA4", events(printOf(bad), printOf(0xE4)), true},
		{"\xC3\x7F\xA4", events(printOf(bad), printOf(bad)), true},
	})
}

// whole are right sequences, each with its event, to put bytes between.
func whole() []sample {
	return []sample{
		{"\x1BD", events(escOf(0, 'D')), true},
		{"\x1B(0", events(escOf('(', '0')), true},
		{"\x1B[m", events(csi('m')), true},
		{"\x1B[?25h", events(csiWith('?', 0, 'h', 25)), true},
		{"\x1B[1;31m", events(csi('m', 1, 31)), true},
		{"\x1B[;2 q", events(csiWith(0, ' ', 'q', def, 2)), true},
		{"\x1B()0", nil, true},
		{"\x1B[1:2m", nil, true},
		{"\x1B[1?h", nil, true},
		{"\x1B[!1h", nil, true},
		{"\x1B[!!h", nil, true},
	}
}

// P5.3: each control at each place of a sequence: it is an event, ahead of the
// sequence's, which is as it were without.
func TestControlsWithinSequences(t *testing.T) {
	for _, q := range whole() {
		for k := 1; k < len(q.in); k++ {
			for b := range byte(32) {
				if b == 24 || b == 26 || b == 27 {
					continue
				}
				in := q.in[:k] + string([]byte{b, b}) + q.in[k:]
				try(t, []sample{{in, append(events(execOf(b), execOf(b)), q.want...), true}})
			}
			try(t, []sample{{q.in[:k] + "\x7F\x7F" + q.in[k:], q.want, true}})
		}
	}
}

// P5.3: what ends a sequence at each place: behind CAN and SUB is the ground,
// behind ESC a new sequence, and the bytes of runes are taken in the ground.
func TestSequencesCutOff(t *testing.T) {
	for _, q := range whole() {
		for k := 1; k < len(q.in); k++ {
			for _, end := range []string{"\x18", "\x1A"} {
				try(t, []sample{
					{q.in[:k] + end, nil, true},
					{q.in[:k] + end + "1m", events(printOf('1'), printOf('m')), true},
				})
			}
			try(t, []sample{
				{q.in[:k] + "\x1B", nil, false},
				{q.in[:k] + "\x1BM", events(escOf(0, 'M')), true},
				{q.in[:k] + "\x1B[;m", events(csi('m', def, def)), true},
				{q.in[:k] + "\x1B\x1B\x1B)B", events(escOf(')', 'B')), true},
				{q.in[:k] + "\x80m", events(printOf(bad), printOf('m')), true},
				{q.in[:k] + "\xFFm", events(printOf(bad), printOf('m')), true},
				{q.in[:k] + "\xC3", nil, false},
				{q.in[:k] + "\xC3\xA4m", events(printOf(0xE4), printOf('m')), true},
				{q.in[:k] + "\xC3\x1B7", events(printOf(bad), escOf(0, '7')), true},
			})
		}
	}
}

// P5.4: each byte right behind ESC, behind one that is collected, and behind two.
func TestEscapes(t *testing.T) {
	for i := 32; i < 127; i++ {
		b := byte(i)
		s := string([]byte{b})
		switch {
		case b < 48:
			try(t, []sample{
				{"\x1B" + s, nil, false}, {"\x1B" + s + s, nil, false},
				{"\x1B" + s + "0a", events(escOf(b, '0'), printOf('a')), true},
				{"\x1B" + s + s + "0a", events(printOf('a')), true},
				{"\x1B" + s + "(%0a", events(printOf('a')), true},
			})
			continue
		case b == '[' || b == ']' || b == 'P' || b == 'X' || b == '^' || b == '_':
			try(t, []sample{{"\x1B" + s, nil, false}, {"\x1B" + s + "1", nil, false}})
		default:
			try(t, []sample{{"\x1B" + s + "a", events(escOf(0, b), printOf('a')), true}})
		}
		try(t, []sample{
			{"\x1B(" + s + "a", events(escOf('(', b), printOf('a')), true},
			{"\x1B /" + s + "a", events(printOf('a')), true},
		})
	}
}

// P5.4: an event has nothing of the sequences ahead of it.
func TestEscapesForget(t *testing.T) {
	try(t, []sample{
		{"\x1B(0\x1BD", events(escOf('(', '0'), escOf(0, 'D')), true},
		{"\x1B(\x18\x1BD", events(escOf(0, 'D')), true},
		{"\x1B(\x1BD", events(escOf(0, 'D')), true},
		{"\x1B((0\x1B)0\x1B[m", events(escOf(')', '0'), csi('m')), true},
		{"\x1B(\x1B[ q\x1B[q", events(csiWith(0, ' ', 'q'), csi('q')), true},
		{"\x1B[?1$p\x1BD\x1B#8", events(csiWith('?', '$', 'p', 1), escOf(0, 'D'), escOf('#', '8')), true},
		{"\x1B]a\x07\x1BD\x1B]\x07", events(oscOf("a"), escOf(0, 'D'), oscOf("")), true},
	})
}

// P5.5: each last byte, and each of those that may stand about parameters.
func TestCsi(t *testing.T) {
	for b := byte(64); b < 127; b++ {
		s := string([]byte{b})
		try(t, []sample{
			{"\x1B[" + s, events(csi(b)), true},
			{"\x1B[7" + s + s, events(csi(b, 7), printOf(rune(b))), true},
			{"\x1B[>0;1," + s, events(csiWith('>', ',', b, 0, 1)), true},
		})
	}
	for b := byte(32); b < 48; b++ {
		s := string([]byte{b})
		try(t, []sample{
			{"\x1B[" + s + "q", events(csiWith(0, b, 'q')), true},
			{"\x1B[2;" + s + "q", events(csiWith(0, b, 'q', 2, def)), true},
			{"\x1B[=" + s + "q", events(csiWith('=', b, 'q')), true},
		})
	}
	for _, b := range []byte("<=>?") {
		s := string([]byte{b})
		try(t, []sample{
			{"\x1B[" + s + "c", events(csiWith(b, 0, 'c')), true},
			{"\x1B[\n" + s + "25h", events(execOf('\n'), csiWith(b, 0, 'h', 25)), true},
			{"\x1B[\x7F" + s + ";h", events(csiWith(b, 0, 'h', def, def)), true},
		})
	}
}

// P5.5: parameters left out at each place.
func TestParamsLeftOut(t *testing.T) {
	try(t, []sample{
		{"\x1B[H", events(csi('H')), true},
		{"\x1B[?H", events(csiWith('?', 0, 'H')), true},
		{"\x1B[ H", events(csiWith(0, ' ', 'H')), true},
		{"\x1B[;H", events(csi('H', def, def)), true},
		{"\x1B[;;H", events(csi('H', def, def, def)), true},
		{"\x1B[;5H", events(csi('H', def, 5)), true},
		{"\x1B[5;H", events(csi('H', 5, def)), true},
		{"\x1B[5;;6H", events(csi('H', 5, def, 6)), true},
		{"\x1B[;5;H", events(csi('H', def, 5, def)), true},
		{"\x1B[0H", events(csi('H', 0)), true},
		{"\x1B[0;0H", events(csi('H', 0, 0)), true},
		{"\x1B[00;007H", events(csi('H', 0, 7)), true},
		{"\x1B[?;$p", events(csiWith('?', '$', 'p', def, def)), true},
		{"\x1B[1;2;3;4;5;6;7;8;9;0m", events(csi('m', 1, 2, 3, 4, 5, 6, 7, 8, 9, 0)), true},
	})
}

// P5.5: numbers about MaxParam, those that would wrap round, and those of very
// many digits.
func TestParamsGreat(t *testing.T) {
	for _, q := range []struct {
		s string
		n int
	}{
		{"9999", 9999}, {"10000", 10000}, {"65534", 65534}, {"65535", 65535}, {"65536", 65535}, {"65540", 65535}, {"65600", 65535},
		{"70000", 65535}, {"99999", 65535}, {"655350", 65535}, {"655360", 65535}, {"131072", 65535}, {"4294967296", 65535}, {"4294967297", 65535},
		{"18446744073709551616", 65535}, {"18446744073709551619", 65535}, {"0000000000000000000000065534", 65534},
		{strings.Repeat("0", 5000), 0}, {strings.Repeat("0", 5000) + "12", 12}, {strings.Repeat("9", 5000), 65535}, {"1" + strings.Repeat("0", 5000), 65535},
	} {
		try(t, []sample{
			{"\x1B[" + q.s + "m", events(csi('m', q.n)), true},
			{"\x1B[?3;" + q.s + ";4m", events(csiWith('?', 0, 'm', 3, q.n, 4)), true},
		})
	}
}

// P5.5: MaxParams of them, those past it, and very many.
func TestParamsMany(t *testing.T) {
	var numbers []int
	var words []string
	for i := range 16 {
		numbers, words = append(numbers, 10+i), append(words, string([]byte{'1' + byte(i/10), '0' + byte(i%10)}))
	}
	most := strings.Join(words, ";")
	none := slices.Repeat([]int{def}, 16)
	try(t, []sample{
		{"\x1B[" + strings.Join(words[:15], ";") + "m", events(csi('m', numbers[:15]...)), true},
		{"\x1B[" + strings.Join(words[:15], ";") + ";m", events(csi('m', append(slices.Clone(numbers[:15]), def)...)), true},
		{"\x1B[" + most + "m", events(csi('m', numbers...)), true},
		{"\x1B[" + most + ";m", events(csi('m', numbers...)), true},
		{"\x1B[" + most + ";7m", events(csi('m', numbers...)), true},
		{"\x1B[" + most + ";7;8;;9 q", events(csiWith(0, ' ', 'q', numbers...)), true},
		{"\x1B[?" + most + ";7;8l", events(csiWith('?', 0, 'l', numbers...)), true},
		{"\x1B[" + most + ";7m\x1B[8;9m", events(csi('m', numbers...), csi('m', 8, 9)), true},
		{"\x1B[" + most + ";7:m", nil, true},
		{"\x1B[" + strings.Repeat(";", 14) + "m", events(csi('m', none[:15]...)), true},
		{"\x1B[" + strings.Repeat(";", 15) + "m", events(csi('m', none...)), true},
		{"\x1B[" + strings.Repeat(";", 16) + "m", events(csi('m', none...)), true},
		{"\x1B[" + strings.Repeat(";", 5000) + "1m", events(csi('m', none...)), true},
		{"\x1B[" + strings.Repeat(";", 15) + "3m", events(csi('m', append(slices.Clone(none[:15]), 3)...)), true},
		{"\x1B[" + strings.Repeat(";", 16) + "3m", events(csi('m', none...)), true},
	})
}

// P5.5: each thing that is wrong; the sequence goes on till it ends, and then
// one that is right is as it were alone.
func TestCsiWrong(t *testing.T) {
	for _, body := range []string{
		":", "1:", "1:2", ";:", "?:", "?1:2", " :", "1::2", "38:2:1:2:3",
		"1?", "1<2", ";=", "1;>", "??", "?<", "?1?", "<=>", "1;2?3",
		" 1", "!;", "1$2", "1$;", "?1$2", "$:", "1$:", "$?", "1 <", "$=", "$>",
		"  ", "!!", "1 !", "?1 $", "    ", " !\"#$%&'()*+,-./", ":?", ":1;2", ": ", ":?1 2;",
	} {
		try(t, []sample{
			{"\x1B[" + body, nil, false},
			{"\x1B[" + body + "m", nil, true},
			{"\x1B[" + body + "mx\x1B[4;5m", events(printOf('x'), csi('m', 4, 5)), true},
			{"\x1B[" + body + "~\x1BD\x1B]a\x07", events(escOf(0, 'D'), oscOf("a")), true},
			{"\x1B[" + body + "\n\x7F\x07@", events(execOf('\n'), execOf(7)), true},
			{"\x1B[" + body + "\x1B[4;5m", events(csi('m', 4, 5)), true},
			{"\x1B[" + body + "\x18m", events(printOf('m')), true},
			{"\x1B[" + body + "\xC3\xA4", events(printOf(0xE4)), true},
		})
	}
}

// P5.5: an event has nothing of the sequences ahead of it.
func TestCsiForgets(t *testing.T) {
	try(t, []sample{
		{"\x1B[?1;2$p\x1B[p", events(csiWith('?', '$', 'p', 1, 2), csi('p')), true},
		{"\x1B[?1;2$\x18\x1B[p", events(csi('p')), true},
		{"\x1B[?1;2$\x1B[p", events(csi('p')), true},
		{"\x1B[1;2\x1B[3p", events(csi('p', 3)), true},
		{"\x1B[1;2\xFF\x1B[;p", events(printOf(bad), csi('p', def, def)), true},
		{"\x1B[9:9p\x1B[3p\x1B[p", events(csi('p', 3), csi('p')), true},
		{"\x1B[?1\x1B(0\x1B[2p", events(escOf('(', '0'), csi('p', 2)), true},
	})
}

// P5.6: each way that a string ends; only an OSC makes an event, and only if
// it is ended by 7 or by ESC \.
func TestStringsEnd(t *testing.T) {
	for _, s := range []string{"", "0;title", "a", ";", "\xE4\xB8\x80", "\xC3", "[1m", "\\", "\x7F"} {
		for _, open := range []string{"]", "P", "X", "^", "_"} {
			var want []api.Event
			if open == "]" {
				want = events(oscOf(s))
			}
			in := "\x1B" + open + s
			try(t, []sample{
				{in, nil, false}, {in + "\x1B", nil, false},
				{in + "\x07", want, true}, {in + "\x1B\\", want, true},
				{in + "\x07z", append(slices.Clone(want), printOf('z')), true},
				{in + "\x1B\\\\", append(slices.Clone(want), printOf('\\')), true},
				{in + "\x18z\x07", events(printOf('z'), execOf(7)), true},
				{in + "\x1Az", events(printOf('z')), true},
				{in + "\x1BD", events(escOf(0, 'D')), true},
				{in + "\x1B(0", events(escOf('(', '0')), true},
				{in + "\x1B[?1h\x07", events(csiWith('?', 0, 'h', 1), execOf(7)), true},
				{in + "\x1B]b\x07", events(oscOf("b")), true},
				{in + "\x1BPb\x07z", events(printOf('z')), true},
				{in + "\x1B\x1B", nil, false},
				{in + "\x1B\x1B\\", events(escOf(0, '\\')), true},
				{in + "\x1B\x07\\", events(execOf(7), escOf(0, '\\')), true},
				{in + "\x1B\x00[2m", events(execOf(0), csi('m', 2)), true},
				{in + "\x1B\x18\\", events(printOf('\\')), true},
				{in + "\x1B\x1A", nil, true},
				{in + "\x1B\x7F\\", events(escOf(0, '\\')), true},
				{in + "\x1B\xC3\xA4", events(printOf(0xE4)), true},
				{in + "\x1B\x80", events(printOf(bad)), true},
			})
		}
	}
}

// P5.6: each byte within a string: those of 32 and more are text, as they are.
func TestStringsBytes(t *testing.T) {
	for i := range 256 {
		b := byte(i)
		if b == 7 || b == 24 || b == 26 || b == 27 {
			continue
		}
		s := string([]byte{b})
		want := s
		if b < 32 {
			want = ""
		}
		try(t, []sample{
			{"\x1B]" + s + "\x07", events(oscOf(want)), true},
			{"\x1B]a" + s + s + "b\x1B\\", events(oscOf("a" + want + want + "b")), true},
			{"\x1BPa" + s + "b\x07", nil, true},
			{"\x1BX" + s + "\x1B\\", nil, true},
		})
	}
}

// P5.6: texts about MaxText; bytes below 32 don't count.
func TestStringsLong(t *testing.T) {
	most := strings.Repeat("0123456789abcde\xE4", 256)
	for _, end := range []string{"\x07", "\x1B\\"} {
		try(t, []sample{
			{"\x1B]" + most[1:] + end, events(oscOf(most[1:])), true},
			{"\x1B]" + most + end, events(oscOf(most)), true},
			{"\x1B]\n" + most + "\r\x00" + end, events(oscOf(most)), true},
			{"\x1B]" + strings.Repeat("\n", 5000) + most + strings.Repeat("\t", 5000) + end, events(oscOf(most)), true},
			{"\x1B]" + most + "x" + end, nil, true},
			{"\x1B]" + most + "\x7F" + end, nil, true},
			{"\x1B]" + most + "\xE4" + end, nil, true},
			{"\x1B]" + most + "xy" + end, nil, true},
			{"\x1B]" + most + most + most + end + "a", events(printOf('a')), true},
			{"\x1B]" + most + "x" + end + "\x1B]" + most + end, events(oscOf(most)), true},
			{"\x1B]" + most + end + "\x1B]b" + end, events(oscOf(most), oscOf("b")), true},
			{"\x1BP" + most + "x" + end + "\x1B]b" + end, events(oscOf("b")), true},
		})
	}
	try(t, []sample{
		{"\x1B]" + most + "x\x18a", events(printOf('a')), true},
		{"\x1B]" + most + "x\x1B[1m", events(csi('m', 1)), true},
		{"\x1B]" + most + "\x1B]c\x07", events(oscOf("c")), true},
	})
}

// P5.6: a string has nothing of what came ahead of it.
func TestStringsForget(t *testing.T) {
	try(t, []sample{
		{"\x1B]a\x18\x1B]b\x07", events(oscOf("b")), true},
		{"\x1B]a\x1B]b\x07", events(oscOf("b")), true},
		{"\x1B]a\x1B\x1B]b\x07", events(oscOf("b")), true},
		{"\x1B]a\x1B(0\x1B]b\x07", events(escOf('(', '0'), oscOf("b")), true},
		{"\x1B]a\x07\x1B]\x07", events(oscOf("a"), oscOf("")), true},
		{"\x1BPa\x07\x1B]b\x07", events(oscOf("b")), true},
		{"\x1B[?1$p\x1B]b\x07", events(csiWith('?', '$', 'p', 1), oscOf("b")), true},
		{"\x1B]b\x07\x1B[m", events(oscOf("b"), csi('m')), true},
	})
}

// marks are the first and the last of the bytes that are alike, and those beside
// them.
const marks = "\x00\x06\x07\x08\x17\x18\x19\x1A\x1B\x1C\x1F !./0189:;<=>?@AOPQWXYZ[\\]^_`am~\x7F\x80\xA4\xBF\xC2\xC3\xF4\xF5\xFF"

// P5.1 to P5.6: behind all that may be begun each byte, and each two of those
// that matter, and then what shows where the parser was.
func TestAgainstModel(t *testing.T) {
	for _, s := range begun() {
		for i := range 256 {
			check(t, s+string([]byte{byte(i)}))
		}
		for _, end := range behind() {
			for _, a := range []byte(marks) {
				check(t, s+string([]byte{a})+end)
			}
		}
		if len(s) > 100 {
			continue
		}
		for i := range 256 {
			for _, end := range behind() {
				check(t, s+string([]byte{byte(i)})+end)
			}
			for _, b := range []byte(marks) {
				check(t, s+string([]byte{byte(i), b})+"0m")
			}
		}
	}
}

// atRandom gives n bytes, of those that matter more often than of others. The
// seed is always the same.
func atRandom(seed int64, n int) string {
	const often = "\x1B\x1B\x1B\x1B[[[]]PX^_\\\\\x07\x07\x18\x1A\x7F\n0123456789;;;;:<=>? !$()mhHD\xC3\xA4\xE4\xB8\x80\xFF"
	r := rand.New(rand.NewSource(seed))
	out := make([]byte, n)
	for i := range out {
		out[i] = often[r.Intn(len(often))]
		if r.Intn(4) == 0 {
			out[i] = byte(r.Intn(256))
		}
	}
	return string(out)
}

// R1: bytes at random, all alike likely and not.
func TestAtRandom(t *testing.T) {
	for seed := range int64(2000) {
		check(t, atRandom(seed, 60))
	}
	r := rand.New(rand.NewSource(7))
	for range 500 {
		b := make([]byte, 300)
		r.Read(b)
		check(t, string(b))
	}
}

// R1: what never ends makes nothing, and is begun as long as it lasts.
func TestEndless(t *testing.T) {
	const n = 300000
	for _, q := range []struct {
		begin, more, end string
		want             []api.Event
	}{
		{"\x1B]", "a", "\x18a", events(printOf('a'))},
		{"\x1BP", "\xC3", "\x07a", events(printOf('a'))},
		{"\x1B]", "\n", "b\x07", events(oscOf("b"))},
		{"\x1B[", "9", "m", events(csi('m', 65535))},
		{"\x1B[", ";", "m", events(csi('m', slices.Repeat([]int{def}, 16)...))},
		{"\x1B[", "1;", "m", events(csi('m', slices.Repeat([]int{1}, 16)...))},
		{"\x1B[", ":", "ma", events(printOf('a'))},
		{"\x1B[", " ", "ma", events(printOf('a'))},
		{"\x1B[", "\x7F", "m", events(csi('m'))},
		{"\x1B", "\x1B", "D", events(escOf(0, 'D'))},
		{"\x1B", "(", "Da", events(printOf('a'))},
	} {
		p := parse.New()
		if got := p.Feed([]byte(q.begin + strings.Repeat(q.more, n))); len(got) != 0 || p.Ground() {
			t.Errorf("%q, %q: %v", q.begin, q.more, got)
		}
		if got := p.Feed([]byte(q.end)); !alike(got, q.want) || !p.Ground() {
			t.Errorf("%q, %q: %v, not %v", q.begin, q.more, got, q.want)
		}
	}
}

// streams are some of everything, for what must hold wherever they are cut.
func streams() []string {
	var all []string
	for _, s := range begun() {
		if len(s) < 100 {
			all = append(all, s+"1;2m\x07\x1B[3;4m\x84", s+"\x1B\\\xE4\xB8\x80", s)
		}
	}
	for seed := range int64(60) {
		all = append(all, atRandom(1000+seed, 50))
	}
	return all
}

// P5.7, P5.1: cut at each place, the rest fed whole, byte by byte, and to a copy,
// of which neither touches the other.
func TestCutAnywhere(t *testing.T) {
	for _, s := range streams() {
		whole := parse.New()
		want := whole.Feed([]byte(s))
		for k := range len(s) + 1 {
			p, q := parse.New(), parse.New()
			first := p.Feed([]byte(s[:k]))
			c := p.Copy()
			if c == p || c.Ground() != p.Ground() {
				t.Fatalf("%q, %d: not a copy", s, k)
			}
			second := p.Feed([]byte(s[k:]))
			third := pushed(c, s[k:])
			apart := append(q.Feed([]byte(s[:k])), pushed(q, s[k:])...)
			if !alike(slices.Concat(first, second), want) || !alike(slices.Concat(first, third), want) || !alike(apart, want) {
				t.Fatalf("%q, %d: %v %v %v, not %v", s, k, first, second, third, want)
			}
			if p.Ground() != whole.Ground() || c.Ground() != whole.Ground() || q.Ground() != whole.Ground() {
				t.Fatalf("%q, %d: ground", s, k)
			}
		}
	}
}

// P5.7: a long text, cut at each place.
func TestCutLongText(t *testing.T) {
	for _, n := range []int{4096, 4097} {
		s := []byte("\x1B]" + strings.Repeat("x", n) + "\x1B\\y")
		want := parse.New().Feed(s)
		if len(want) != 4098-n {
			t.Fatal(n, len(want))
		}
		for k := 0; k <= len(s); k += 17 {
			p := parse.New()
			first := p.Feed(s[:k])
			if got := append(first, p.Copy().Feed(s[k:])...); !alike(got, want) {
				t.Fatal(n, k)
			}
		}
	}
}

// P5.1: a parser and its copy, each fed on with something else, and by turns.
func TestCopiesApart(t *testing.T) {
	ends := []string{"1;2;3m", ";;\x07", "bcd\x07", "b\x1B\\", "\x84\xA4\xB8z", "(0", "$p", "\x18z", "\x1B[9;9m"}
	for _, s := range append(streams(), begun()...) {
		for _, a := range ends {
			for _, b := range ends {
				p := parse.New()
				p.Feed([]byte(s))
				c := p.Copy()
				var ofP, ofC []api.Event
				for i := range max(len(a), len(b)) {
					if i < len(a) {
						ofP = append(ofP, p.Push(a[i])...)
					}
					if i < len(b) {
						ofC = append(ofC, c.Push(b[i])...)
					}
				}
				x, y := parse.New(), parse.New()
				x.Feed([]byte(s))
				y.Feed([]byte(s))
				if !alike(ofP, x.Feed([]byte(a))) || !alike(ofC, y.Feed([]byte(b))) || p.Ground() != x.Ground() || c.Ground() != y.Ground() {
					t.Fatalf("%q, %q, %q: %v, %v", short(s), a, b, ofP, ofC)
				}
			}
		}
	}
}

// P5.1: a copy outlives what it was made of, and a copy of a copy is one, too.
func TestCopyOfCopy(t *testing.T) {
	p := parse.New()
	p.Feed([]byte("\x1B[?1;2"))
	c := p.Copy()
	d := c.Copy()
	p.Feed([]byte("\x18abc\x1B]"))
	c.Feed([]byte(";7"))
	if got := d.Feed([]byte("3h")); !alike(got, events(csiWith('?', 0, 'h', 1, 23))) {
		t.Error(got)
	}
	if got := c.Push('l'); !alike(got, events(csiWith('?', 0, 'l', 1, 2, 7))) || p.Ground() {
		t.Error(got)
	}
}

// R2: what is handed in stays, its spare room too, and isn't kept: written over
// behind the call, it leaves what comes later as it is.
func TestHandedInStays(t *testing.T) {
	for _, s := range streams() {
		for k := range len(s) + 1 {
			room := []byte(s + "\x1B[7m]]]")
			b := room[:k]
			p := parse.New()
			first := p.Feed(b)
			if string(room) != s+"\x1B[7m]]]" {
				t.Fatalf("%q, %d: %q", s, k, room)
			}
			for i := range room {
				room[i] = 'x'
			}
			if got := append(first, p.Feed([]byte(s[k:]))...); !alike(got, parse.New().Feed([]byte(s))) || !bytes.Equal(room, bytes.Repeat([]byte("x"), len(room))) {
				t.Fatalf("%q, %d: %v, %q", s, k, got, room)
			}
		}
	}
}

// spoil writes an answer full, its spare room and its lists' too.
func spoil(es []api.Event) {
	es = es[:cap(es)]
	for i := range es {
		ns := es[i].Params[:cap(es[i].Params)]
		for j := range ns {
			ns[j] = 77
		}
		es[i] = api.Event{Kind: 77, Rune: 77, Priv: 77, Inter: 77, Final: 77, Text: "77"}
	}
}

// kept is an event list whose lists are its own.
func kept(es []api.Event) []api.Event {
	out := slices.Clone(es)
	for i := range out {
		out[i].Params = slices.Clone(out[i].Params)
	}
	return out
}

// R2: an answer written full, at each place of a stream, leaves those ahead of it
// and those behind it as they were.
func TestAnswersAreNew(t *testing.T) {
	for _, s := range append(streams(), "\x1B[1;2m\x1B[3;4m\x1B[5m\x1B[6;7;8m\x1B[m\x1B[;9m") {
		want := kept(parse.New().Feed([]byte(s)))
		for k := range len(s) + 1 {
			p := parse.New()
			ahead := p.Feed([]byte(s[:k/2]))
			was := kept(ahead)
			middle := p.Feed([]byte(s[k/2 : k]))
			between := kept(middle)
			c := p.Copy()
			spoil(middle)
			rest := p.Feed([]byte(s[k:]))
			if !alike(ahead, was) || !alike(slices.Concat(was, between, rest), want) {
				t.Fatalf("%q, %d: %v, %v", s, k, ahead, rest)
			}
			spoil(rest)
			if got := c.Feed([]byte(s[k:])); !alike(slices.Concat(was, between, got), want) || !alike(ahead, was) {
				t.Fatalf("%q, %d: the copy: %v", s, k, got)
			}
		}
	}
}

// R2: of one answer, each event's list is its own, its spare room too.
func TestParamsAreNew(t *testing.T) {
	want := events(csi('m', 1, 2, 3), csi('m', 4, 5), csi('m'), csi('m', 6, 7, 8))
	for i := range want {
		got := parse.New().Feed([]byte("\x1B[1;2;3m\x1B[4;5m\x1B[m\x1B[6;7;8m"))
		spoil(got[i : i+1 : i+1])
		for j := range want {
			if j != i && !same(got[j], want[j]) {
				t.Errorf("%d, %d: %v", i, j, got[j])
			}
		}
	}
}

// The chapter's runs.
func TestRuns(t *testing.T) {
	try(t, []sample{
		{"\x1B[1;31m", events(csi('m', 1, 31)), true},
		{"\x1B[?25h", events(csiWith('?', 0, 'h', 25)), true},
		{"\x1B(0", events(escOf('(', '0')), true},
		{"\x1B[1:2m", nil, true},
	})
}
