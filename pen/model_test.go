package pen_test

import (
	"math"
	"math/rand"

	"linguist/api"
)

// A second, plain reading of the chapter: a machine that is given one parameter
// behind the other and never looks ahead, and a list of all that each number
// by itself does.

const def = api.Default

var plain = api.Pen{Fore: def, Back: def}

// like holds two pens against each other field by field.
func like(a, b api.Pen) bool { return a.Fore == b.Fore && a.Back == b.Back && a.Flags == b.Flags }

// flagNumbers are P10.1's numbers of the flags, bit by bit.
var flagNumbers = []int{1, 2, 3, 4, 5, 7, 8, 9}

// doings is what each number that hangs on nothing behind it does.
func doings() map[int]func(p *api.Pen) {
	do := map[int]func(p *api.Pen){
		0:  func(p *api.Pen) { *p = api.Pen{Fore: def, Back: def} },
		39: func(p *api.Pen) { p.Fore = def },
		49: func(p *api.Pen) { p.Back = def },
	}
	for bit, n := range flagNumbers {
		do[n] = func(p *api.Pen) { p.Flags |= 1 << bit }
		if n > 2 {
			do[n+20] = func(p *api.Pen) { p.Flags &^= 1 << bit }
		}
	}
	do[22] = func(p *api.Pen) { p.Flags &^= 3 }
	for c := range 8 {
		do[30+c] = func(p *api.Pen) { p.Fore = c }
		do[40+c] = func(p *api.Pen) { p.Back = c }
		do[90+c] = func(p *api.Pen) { p.Fore = c + 8 }
		do[100+c] = func(p *api.Pen) { p.Back = c + 8 }
	}
	return do
}

var do = doings()

// machine is what stands behind some parameters: a colour of which some were
// read, or none, or all that comes is done.
type machine struct {
	pen   api.Pen
	begun []int // 38 or 48 and what came behind it
	deaf  bool
}

func (m *machine) push(n int) {
	if n == def {
		n = 0
	}
	switch {
	case m.deaf:
	case len(m.begun) > 0 || n == 38 || n == 48:
		m.begun = append(m.begun, n)
		m.end()
	case do[n] != nil:
		do[n](&m.pen)
	}
}

// end does the colour that is begun, if all of it is there.
func (m *machine) end() {
	switch l := m.begun; {
	case len(l) > 1 && l[1] != 5 && l[1] != 2:
		m.deaf = true
	case len(l) == 3 && l[1] == 5:
		if l[2] >= 0 && l[2] <= 255 {
			m.color(l[2])
		}
		m.begun = nil
	case len(l) == 5:
		if min(l[2], l[3], l[4]) >= 0 && max(l[2], l[3], l[4]) <= 255 {
			m.color(16777216 + 65536*l[2] + 256*l[3] + l[4])
		}
		m.begun = nil
	}
}

func (m *machine) color(c int) {
	if m.begun[0] == 38 {
		m.pen.Fore = c
	} else {
		m.pen.Back = c
	}
}

func applied(p api.Pen, params []int) api.Pen {
	if len(params) == 0 {
		return plain
	}
	m := machine{pen: p}
	for _, n := range params {
		m.push(n)
	}
	return m.pen
}

// said is P10.1's parameters of a right pen.
func said(p api.Pen) []int {
	l := []int{0}
	for bit, n := range flagNumbers {
		if p.Flags>>bit%2 == 1 {
			l = append(l, n)
		}
	}
	l = append(l, saidColor(p.Fore, 30, 82, 38)...)
	return append(l, saidColor(p.Back, 40, 92, 48)...)
}

func saidColor(c, dark, light, long int) []int {
	switch {
	case c == def:
		return nil
	case c <= 7:
		return []int{dark + c}
	case c <= 15:
		return []int{light + c}
	case c <= 255:
		return []int{long, 5, c}
	}
	c -= 16777216
	return []int{long, 2, c / 65536, c / 256 % 256, c % 256}
}

func direct(r, g, b int) int { return 16777216 + 65536*r + 256*g + b }

// colors are Default, colours about each edge, and direct ones whose parts differ.
func colors() []int {
	return []int{
		def, 0, 1, 6, 7, 8, 9, 14, 15, 16, 17, 200, 254, 255,
		direct(0, 0, 0), direct(0, 0, 1), direct(0, 1, 0), direct(1, 0, 0), direct(1, 2, 3), direct(250, 10, 20),
		direct(0, 0, 255), direct(0, 255, 0), direct(255, 0, 0), direct(255, 255, 254), direct(255, 255, 255),
	}
}

// wrongColors are no colours.
func wrongColors() []int {
	return []int{
		-2, -3, -200, 256, 257, 300, 65535, 65536, direct(0, 0, 0) - 1, direct(255, 255, 255) + 1, 2*direct(255, 255, 255) + 7,
		1 << 32, 1<<32 + 5, math.MinInt32, math.MinInt, math.MinInt + 7, math.MaxInt32, math.MaxInt,
	}
}

// flagsOf are no flags, each by itself, all but each, all, and some.
func flagsOf() []int {
	l := []int{0, 255, 3, 0x55, 0xAA, 0x1C}
	for bit := range 8 {
		l = append(l, 1<<bit, 255-1<<bit)
	}
	return l
}

// pens are right pens of all kinds.
func pens() []api.Pen {
	var l []api.Pen
	for _, c := range colors() {
		l = append(l, api.Pen{Fore: c, Back: def}, api.Pen{Fore: def, Back: c}, api.Pen{Fore: c, Back: c, Flags: 255})
	}
	for _, f := range flagsOf() {
		l = append(l, api.Pen{Fore: def, Back: def, Flags: f}, api.Pen{Fore: 9, Back: 33, Flags: f})
	}
	return l
}

// wrongPens are pens that aren't right.
func wrongPens() []api.Pen {
	var l []api.Pen
	for _, c := range wrongColors() {
		l = append(l, api.Pen{Fore: c, Back: def}, api.Pen{Fore: def, Back: c, Flags: 3}, api.Pen{Fore: c, Back: c, Flags: c})
	}
	for _, f := range []int{-1, -2, -256, 256, 257, 511, 1 << 32, math.MinInt, math.MaxInt} {
		l = append(l, api.Pen{Fore: 1, Back: 2, Flags: f})
	}
	return l
}

func chancePen(chance *rand.Rand) api.Pen {
	all := colors()
	p := api.Pen{Fore: all[chance.Intn(len(all))], Back: all[chance.Intn(len(all))], Flags: chance.Intn(256)}
	if chance.Intn(4) == 0 {
		p.Fore = direct(chance.Intn(256), chance.Intn(256), chance.Intn(256))
	}
	if chance.Intn(4) == 0 {
		p.Back = chance.Intn(257) - 1
	}
	return p
}

// chanceParams are up to n parameters: many begin a colour or stand well in one,
// some are none that are right.
func chanceParams(chance *rand.Rand, n int) []int {
	some := []int{38, 48, 38, 48, 5, 2, 5, 2, 0, def, 255, 256, 1, 4, 22, 39, 49, 65535, -2, -38, math.MinInt, math.MaxInt, 1<<32 + 31}
	var l []int
	for range chance.Intn(n + 1) {
		switch chance.Intn(3) {
		case 0:
			l = append(l, chance.Intn(120))
		case 1:
			l = append(l, chance.Intn(300)-5)
		default:
			l = append(l, some[chance.Intn(len(some))])
		}
	}
	return l
}
