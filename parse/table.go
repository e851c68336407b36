package parse

// What a parser is in.
const (
	stay         = iota // of a move: it is in that still
	inGround            // nothing is begun but, maybe, a rune
	inEscape            // right behind ESC
	inEscapeOne         // behind ESC and a collected byte
	inEscapeMany        // behind ESC and more of them than an event can tell
	inCsi               // in a CSI of which nothing has come yet
	inParams            // in one that may have more parameters
	inInter             // in one behind a collected byte
	inWrong             // in one that makes no event
	inOsc
	inOscEscape   // in an OSC behind an ESC, that may end it
	inOther       // in a string that makes no event
	inOtherEscape // in such a one behind an ESC
	states
)

// What is alike among bytes.
const (
	control   = iota
	bell      // 7
	cancel    // CAN, SUB
	escape    // ESC
	middle    // those that are collected
	digit     // 0 to 9
	colon     // :
	semicolon // ;
	private   // < = > ?
	openCsi   // [
	openOsc   // ]
	openOther // P X ^ _
	backslash // \
	final     // others that end a sequence
	remove    // 127
	high      // those of runes
	classes
)

// What a byte does.
const (
	skip    = iota << stateBits
	show    // it is an EPrint
	exec    // it is an EExec
	decode  // it is one of a rune's
	mark    // it is Priv
	count   // it is a digit of a parameter
	part    // it parts two parameters
	collect // it is Inter
	gather  // it is one of the text
	sayEsc  // it makes an EEsc
	sayCsi  // it makes an ECsi
	sayOsc  // it makes an EOsc
	again   // it is taken as in the state that follows
)

// A move is what a byte does, above the bits of the state that follows.
const (
	stateBits = 4
	stateMask = 1<<stateBits - 1
)

// Moves that end something.
const (
	endEsc  = sayEsc | inGround
	endCsi  = sayCsi | inGround
	endOsc  = sayOsc | inGround
	leave   = decode | inGround
	restart = again | inEscape // an ESC that ended no string, and this byte, begin a sequence
)

// firstHigh is the first byte that is no rune by itself.
const firstHigh = 128

// run is the bytes of a class, from behind the last one of the run ahead of it.
type run struct{ last, class byte }

// runs are the bytes below firstHigh, rising.
var runs = [...]run{
	{6, control}, {7, bell}, {23, control}, {24, cancel}, {25, control}, {26, cancel}, {27, escape}, {31, control},
	{47, middle}, {57, digit}, {58, colon}, {59, semicolon}, {63, private},
	{'O', final}, {'P', openOther}, {'W', final}, {'X', openOther}, {'Z', final},
	{'[', openCsi}, {'\\', backslash}, {']', openOsc}, {'_', openOther}, {126, final},
	{127, remove},
}

// moves are those of each class in each state; where none stands, a byte is
// passed over, and the state stays.
var moves = [states][classes]byte{
	inGround: {
		control: exec, bell: exec, escape: inEscape,
		middle: show, digit: show, colon: show, semicolon: show, private: show,
		openCsi: show, openOsc: show, openOther: show, backslash: show, final: show,
		high: decode,
	},
	inEscape: {
		control: exec, bell: exec, cancel: inGround, escape: inEscape,
		middle: collect | inEscapeOne, digit: endEsc, colon: endEsc, semicolon: endEsc, private: endEsc,
		openCsi: inCsi, openOsc: inOsc, openOther: inOther, backslash: endEsc, final: endEsc,
		high: leave,
	},
	inEscapeOne: {
		control: exec, bell: exec, cancel: inGround, escape: inEscape,
		middle: inEscapeMany, digit: endEsc, colon: endEsc, semicolon: endEsc, private: endEsc,
		openCsi: endEsc, openOsc: endEsc, openOther: endEsc, backslash: endEsc, final: endEsc,
		high: leave,
	},
	inEscapeMany: {
		control: exec, bell: exec, cancel: inGround, escape: inEscape,
		digit: inGround, colon: inGround, semicolon: inGround, private: inGround,
		openCsi: inGround, openOsc: inGround, openOther: inGround, backslash: inGround, final: inGround,
		high: leave,
	},
	inCsi: {
		control: exec, bell: exec, cancel: inGround, escape: inEscape,
		middle: collect | inInter, digit: count | inParams, colon: inWrong, semicolon: part | inParams, private: mark | inParams,
		openCsi: endCsi, openOsc: endCsi, openOther: endCsi, backslash: endCsi, final: endCsi,
		high: leave,
	},
	inParams: {
		control: exec, bell: exec, cancel: inGround, escape: inEscape,
		middle: collect | inInter, digit: count, colon: inWrong, semicolon: part, private: inWrong,
		openCsi: endCsi, openOsc: endCsi, openOther: endCsi, backslash: endCsi, final: endCsi,
		high: leave,
	},
	inInter: {
		control: exec, bell: exec, cancel: inGround, escape: inEscape,
		middle: inWrong, digit: inWrong, colon: inWrong, semicolon: inWrong, private: inWrong,
		openCsi: endCsi, openOsc: endCsi, openOther: endCsi, backslash: endCsi, final: endCsi,
		high: leave,
	},
	inWrong: {
		control: exec, bell: exec, cancel: inGround, escape: inEscape,
		openCsi: inGround, openOsc: inGround, openOther: inGround, backslash: inGround, final: inGround,
		high: leave,
	},
	inOsc: {
		bell: endOsc, cancel: inGround, escape: inOscEscape,
		middle: gather, digit: gather, colon: gather, semicolon: gather, private: gather,
		openCsi: gather, openOsc: gather, openOther: gather, backslash: gather, final: gather,
		remove: gather, high: gather,
	},
	inOscEscape: {
		control: restart, bell: restart, cancel: restart, escape: restart,
		middle: restart, digit: restart, colon: restart, semicolon: restart, private: restart,
		openCsi: restart, openOsc: restart, openOther: restart, backslash: endOsc, final: restart,
		remove: restart, high: restart,
	},
	inOther: {bell: inGround, cancel: inGround, escape: inOtherEscape},
	inOtherEscape: {
		control: restart, bell: restart, cancel: restart, escape: restart,
		middle: restart, digit: restart, colon: restart, semicolon: restart, private: restart,
		openCsi: restart, openOsc: restart, openOther: restart, backslash: inGround, final: restart,
		remove: restart, high: restart,
	},
}

// classOf tells what b is like.
func classOf(b byte) byte {
	for _, r := range runs {
		if b <= r.last {
			return r.class
		}
	}
	return high
}

// moveOf is what b does in that state, and the state that follows it.
func moveOf(state, b byte) (action, next byte) {
	move := moves[state][classOf(b)]
	action, next = move&^stateMask, move&stateMask
	if next == stay {
		next = state
	}
	return action, next
}
