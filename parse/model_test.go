package parse_test

import (
	"strconv"
	"strings"

	"linguist/api"
	"linguist/utf"
)

// What the model is in.
const (
	ground = iota
	sequence
	text
)

// model is a second, plain reading of the chapter: it keeps the bytes themselves,
// and looks at all of them once they are whole.
type model struct {
	in   int
	body []byte // a sequence's bytes from 32 on; a string's first byte, and all behind it
	held utf.Decoder
}

func (m *model) ground() bool { return m.in == ground && !m.held.Held() }

func (m *model) push(b byte) []api.Event {
	switch m.in {
	case sequence:
		return m.sequence(b)
	case text:
		return m.text(b)
	}
	if b >= 128 {
		d, rs := m.held.Push(b)
		m.held = d
		return prints(rs)
	}
	var made []api.Event
	if m.held.Held() {
		m.held, made = utf.Decoder{}, prints([]rune{0xFFFD})
	}
	switch {
	case b == 27:
		m.in, m.body = sequence, nil
	case b == 24 || b == 26 || b == 127:
	case b < 32:
		made = append(made, execOf(b))
	default:
		made = append(made, printOf(rune(b)))
	}
	return made
}

// sequence is P5.3, and then looks whether the sequence is whole.
func (m *model) sequence(b byte) []api.Event {
	switch {
	case b == 24 || b == 26:
		m.in = ground
		return nil
	case b == 27:
		m.body = nil
		return nil
	case b < 32:
		return []api.Event{execOf(b)}
	case b == 127:
		return nil
	case b >= 128:
		m.in = ground
		return m.push(b)
	}
	m.body = append(m.body, b)
	switch first := m.body[0]; {
	case first == '[':
		if len(m.body) == 1 || b < 64 {
			return nil
		}
		m.in = ground
		return csiOf(string(m.body[1:len(m.body)-1]), b)
	case strings.IndexByte("]PX^_", first) >= 0:
		m.in = text
		return nil
	case b < 48:
		return nil
	}
	m.in = ground
	switch len(m.body) {
	case 1:
		return []api.Event{escOf(0, b)}
	case 2:
		return []api.Event{escOf(m.body[0], b)}
	}
	return nil
}

// csiOf is P5.5's event of what stands between [ and the last byte.
func csiOf(s string, final byte) []api.Event {
	e := api.Event{Kind: api.ECsi, Final: final}
	if s != "" && s[0] >= 60 {
		e.Priv, s = s[0], s[1:]
	}
	rest := strings.TrimLeft(s, "0123456789;")
	if s = strings.TrimSuffix(s, rest); s != "" {
		for i, word := range strings.Split(s, ";") {
			if i < 16 {
				e.Params = append(e.Params, numberOf(word))
			}
		}
	}
	if len(rest) > 1 || rest != "" && rest[0] > 47 {
		return nil
	}
	if rest != "" {
		e.Inter = rest[0]
	}
	return []api.Event{e}
}

func numberOf(word string) int {
	if word == "" {
		return -1
	}
	if n, err := strconv.Atoi(word); err == nil && n < 65535 {
		return n
	}
	return 65535
}

// text is P5.6.
func (m *model) text(b byte) []api.Event {
	if m.body[len(m.body)-1] == 27 {
		if b == '\\' {
			return m.oscOf()
		}
		m.in, m.body = sequence, nil
		return m.sequence(b)
	}
	switch b {
	case 7:
		return m.oscOf()
	case 24, 26:
		m.in = ground
		return nil
	}
	m.body = append(m.body, b)
	return nil
}

// oscOf is the event of a string that was ended.
func (m *model) oscOf() []api.Event {
	m.in = ground
	var s []byte
	for _, x := range m.body[1:] {
		if x >= 32 {
			s = append(s, x)
		}
	}
	if m.body[0] != ']' || len(s) > 4096 {
		return nil
	}
	return []api.Event{oscOf(string(s))}
}

func prints(rs []rune) (made []api.Event) {
	for _, r := range rs {
		made = append(made, printOf(r))
	}
	return made
}
