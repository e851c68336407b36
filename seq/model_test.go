package seq_test

import (
	"fmt"
	"math/rand"
	"slices"
	"strings"

	"linguist/api"
	"linguist/parse"
)

const def = -1

func printOf(r rune) api.Event        { return api.Event{Kind: api.EPrint, Rune: r} }
func execOf(b byte) api.Event         { return api.Event{Kind: api.EExec, Final: b} }
func escOf(inter, b byte) api.Event   { return api.Event{Kind: api.EEsc, Inter: inter, Final: b} }
func oscOf(s string) api.Event        { return api.Event{Kind: api.EOsc, Text: s} }
func csi(b byte, ns ...int) api.Event { return api.Event{Kind: api.ECsi, Params: ns, Final: b} }

// csiWith is one with what may stand about its parameters, too.
func csiWith(priv, inter, b byte, ns ...int) api.Event {
	return api.Event{Kind: api.ECsi, Priv: priv, Params: ns, Inter: inter, Final: b}
}

// like holds two events against each other field by field.
func like(a, b api.Event) bool {
	return a.Kind == b.Kind && a.Rune == b.Rune && a.Priv == b.Priv && a.Inter == b.Inter && a.Final == b.Final &&
		a.Text == b.Text && slices.Equal(a.Params, b.Params)
}

func alike(a, b []api.Event) bool { return slices.EqualFunc(a, b, like) }

func parsed(b []byte) []api.Event { return parse.New().Feed(b) }

// written is P6.2's bytes of an event, by the library's means, of one that isn't
// right, too.
func written(e api.Event) string {
	var words []string
	for _, n := range e.Params {
		words = append(words, word(n))
	}
	switch e.Kind {
	case api.EPrint:
		return string(e.Rune)
	case api.EExec:
		return string([]byte{e.Final})
	case api.EEsc:
		return "\x1B" + some(e.Inter) + string([]byte{e.Final})
	case api.ECsi:
		return "\x1B[" + some(e.Priv) + strings.Join(words, ";") + some(e.Inter) + string([]byte{e.Final})
	case api.EOsc:
		return "\x1B]" + e.Text + "\x07"
	}
	return ""
}

func word(n int) string {
	if n == def {
		return ""
	}
	return fmt.Sprint(n)
}

func some(b byte) string { return strings.Trim(string([]byte{b}), "\x00") }

// made tells whether a parser makes e: of its bytes it makes it again, and
// nothing else.
func made(e api.Event) bool { return alike(parsed([]byte(written(e))), []api.Event{e}) }

// rights are some of each kind of right event.
func rights() []api.Event {
	most := slices.Repeat([]int{65535}, 16)
	out := []api.Event{
		printOf(' '), printOf('a'), printOf('0'), printOf(';'), printOf('['), printOf('\\'), printOf('~'), printOf(0x80), printOf(0x9B), printOf(0xE4),
		printOf(0x7FF), printOf(0x800), printOf(0x4E00), printOf(0xD7FF), printOf(0xE000), printOf(0xFFFD), printOf(0xFFFF), printOf(0x10000), printOf(0x10FFFF),
		execOf(0), execOf(7), execOf('\b'), execOf('\n'), execOf('\r'), execOf(23), execOf(25), execOf(28), execOf(31),
		escOf(0, '0'), escOf(0, 'D'), escOf(0, 'M'), escOf(0, '\\'), escOf(0, 'c'), escOf(0, '~'),
		escOf('(', '0'), escOf(')', 'B'), escOf(' ', 'F'), escOf('/', '~'), escOf('(', '['), escOf('#', ']'), escOf('%', 'P'),
		csi('m'), csi('@'), csi('['), csi(']'), csi('~'), csi('m', 0), csi('m', 0, 0), csi('H', 3, 4), csi('H', def, def), csi('H', def, 5), csi('H', 5, def),
		csi('m', 1, def, 31), csi('A', 65535), csi('m', most...), csi('m', slices.Repeat([]int{def}, 16)...), csi('m', 1, 2, 3, 4, 5, 6, 7, 8, 9, 10, 11, 12, 13, 14, 15, 16),
		csiWith('?', 0, 'h', 25), csiWith('?', 0, 'l', 1, 6, 7), csiWith('>', 0, 'c'), csiWith('<', 0, 'm', 0), csiWith('=', 0, 'c', def, 0), csiWith(0, ' ', 'q', 2),
		csiWith(0, '!', 'p'), csiWith('?', '$', 'p', 1), csiWith('?', '/', 'x', most...),
		oscOf(""), oscOf("0;title"), oscOf("a\x7F"), oscOf("\xC3\xA4 \xE4\xB8\x80"), oscOf("\xC3"), oscOf("\x9C\x80\xFF"), oscOf("\\"), oscOf("[1m"), oscOf(strings.Repeat("x", 4096)),
	}
	return out
}

// wrongs are some of each kind of event that no parser makes.
func wrongs() []api.Event {
	var out []api.Event
	for _, r := range []rune{-1 << 31, -1, 0, 7, 27, 31, 127, 0xD800, 0xDBFF, 0xDFFF, 0x110000, 1<<31 - 1} {
		out = append(out, printOf(r))
	}
	for _, b := range []byte{24, 26, 27, 32, 'a', 127, 128, 255} {
		out = append(out, execOf(b))
	}
	for _, b := range []byte{0, 7, 27, 31, 32, 47, 127, 128, 255, '[', ']', 'P', 'X', '^', '_'} {
		out = append(out, escOf(0, b))
	}
	for _, b := range []byte{1, 7, 27, 31, 48, '[', 127, 128, 255} {
		out = append(out, escOf(b, '0'), csiWith(0, b, 'q', 1), csiWith(0, b, 'q'))
	}
	for _, b := range []byte{0, 7, 27, 31, 32, '0', ';', 63, 127, 128, 255} {
		out = append(out, csi(b), csi(b, 1, 2))
	}
	for _, b := range []byte{1, 7, 27, 32, '0', ':', ';', '@', 127, 128, 255} {
		out = append(out, csiWith(b, 0, 'h', 25), csiWith(b, 0, 'h'))
	}
	for _, ns := range [][]int{{def}, {-2}, {1, -2}, {-2, 1}, {65536}, {1, 65536, 1}, {-1 << 63}, {1<<63 - 1}, slices.Repeat([]int{1}, 17), slices.Repeat([]int{def}, 17), make([]int, 5000)} {
		out = append(out, csi('m', ns...), csiWith('?', 0, 'h', ns...))
	}
	for _, s := range []string{"\x00", "\x1F", "\x1Fa", "a\x1F", "a\nb", "\x07", "a\x1B", "\x18", strings.Repeat("x", 4097), strings.Repeat("x", 4096) + "\n", strings.Repeat("\n", 4096)} {
		out = append(out, oscOf(s))
	}
	for _, kind := range []int{-1 << 63, -1, 0, 6, 7, 1<<63 - 1} {
		out = append(out, api.Event{Kind: kind})
		for _, e := range []api.Event{printOf('a'), execOf('\n'), escOf(0, 'D'), csi('m', 1), oscOf("a")} {
			e.Kind = kind
			out = append(out, e)
		}
	}
	return append(out, more(rights())...)
}

// more gives each event with each field that its kind doesn't ask set to
// something, one at a time.
func more(es []api.Event) []api.Event {
	var out []api.Event
	for _, e := range es {
		for _, x := range []api.Event{{Rune: 'a'}, {Rune: -1}, {Priv: '?'}, {Inter: '('}, {Final: '\n'}, {Final: 'm'}, {Params: []int{1}}, {Params: []int{def}}, {Text: "a"}} {
			if f, ok := joined(e, x); ok {
				out = append(out, f)
			}
		}
	}
	return out
}

// joined puts the one thing that x has into e; false where e's kind asks for it.
func joined(e, x api.Event) (api.Event, bool) {
	switch {
	case x.Rune != 0 && e.Kind != api.EPrint:
		e.Rune = x.Rune
	case x.Priv != 0 && e.Kind != api.ECsi:
		e.Priv = x.Priv
	case x.Inter != 0 && e.Kind != api.ECsi && e.Kind != api.EEsc:
		e.Inter = x.Inter
	case x.Final != 0 && (e.Kind == api.EPrint || e.Kind == api.EOsc):
		e.Final = x.Final
	case x.Params != nil && e.Kind != api.ECsi:
		e.Params = x.Params
	case x.Text != "" && e.Kind != api.EOsc:
		e.Text = x.Text
	default:
		return e, false
	}
	return e, true
}

// anyEvent is one of numbers at random, of those that matter more often than of
// others.
func anyEvent(r *rand.Rand) api.Event {
	const often = "\x00\x00\x00\x00\x07\x0A\x18\x1A\x1B\x1F !(/09:;<=>?@AHP[\\]^_hm~\x7F\x80\xFF"
	e := api.Event{Kind: r.Intn(7)}
	byteOf := func() byte { return often[r.Intn(len(often))] }
	if r.Intn(3) == 0 || e.Kind == api.EPrint {
		e.Rune = []rune{0, rune(r.Uint32()), rune(r.Intn(0x111000)), rune(byteOf())}[r.Intn(4)]
	}
	if r.Intn(3) == 0 || e.Kind == api.ECsi {
		e.Priv = byteOf()
		for range r.Intn(18) {
			e.Params = append(e.Params, []int{def, 0, 1, 65535, 65536, -2, r.Intn(66000), r.Int()}[r.Intn(8)])
		}
	}
	if r.Intn(2) == 0 {
		e.Inter = byteOf()
	}
	if r.Intn(3) > 0 {
		e.Final = byteOf()
	}
	if r.Intn(3) == 0 || e.Kind == api.EOsc {
		b := make([]byte, r.Intn(4))
		for i := range b {
			b[i] = byteOf()
		}
		e.Text = string(b)
	}
	return e
}
