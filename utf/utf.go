// Package utf makes runes of bytes, byte by byte, and bytes of runes.
package utf

import "linguist/api"

// The smallest runes that need two, three and four bytes.
const (
	least2 = 0x80
	least3 = 0x800
	least4 = 0x10000
)

// The numbers between, both too, are halves of pairs, and no runes.
const (
	firstHalf = 0xD800
	lastHalf  = 0xDFFF
)

// A byte that continues a sequence bears its bits below this mark.
const (
	tailBits = 6
	tailMask = 1<<tailBits - 1
	tailMark = 1 << 7
)

// The marks of a sequence's first byte, by its length.
const (
	head2 = 0xC0
	head3 = 0xE0
	head4 = 0xF0
)

// Decoder holds the sequence that is begun: how many bytes it needs, how many
// it has, and the bits of these. A zero one holds nothing.
type Decoder struct {
	Need, Have int
	Acc        int
}

// Push takes one byte: the decoder behind it, and the runes that it made.
func (d Decoder) Push(b byte) (Decoder, []rune) { return d.into(nil, b) }

// Held tells whether a sequence is begun.
func (d Decoder) Held() bool { return d.Need > 0 }

// Encode gives each rune's shortest sequence, and Bad's for what is no rune.
func Encode(rs ...rune) []byte {
	var out []byte
	for _, r := range rs {
		out = put(out, r)
	}
	return out
}

// Decode gives what all bytes of b made, and the decoder behind them.
func Decode(b []byte) ([]rune, Decoder) {
	var d Decoder
	var out []rune
	for _, x := range b {
		d, out = d.into(out, x)
	}
	return out, d
}

// into is Push, but puts its runes behind out, lest a long text make a list for
// each of its bytes.
func (d Decoder) into(out []rune, b byte) (Decoder, []rune) {
	if !d.Held() {
		return begin(out, b)
	}
	if b&^tailMask != tailMark {
		return begin(append(out, api.Bad), b)
	}
	d.Have++
	d.Acc = d.Acc<<tailBits | int(b&tailMask)
	if d.Have < d.Need {
		return d, out
	}
	return Decoder{}, append(out, whole(d.Need, d.Acc))
}

// begin is what comes of b where nothing is held. C0, C1 and all above F4 begin
// nothing: no sequence of theirs could ever be a rune.
func begin(out []rune, b byte) (Decoder, []rune) {
	switch {
	case b < least2:
		return Decoder{}, append(out, rune(b))
	case b >= 0xC2 && b < head3:
		return Decoder{Need: 2, Have: 1, Acc: int(b &^ head2)}, out
	case b >= head3 && b < head4:
		return Decoder{Need: 3, Have: 1, Acc: int(b &^ head3)}, out
	case b >= head4 && b <= 0xF4:
		return Decoder{Need: 4, Have: 1, Acc: int(b &^ head4)}, out
	}
	return Decoder{}, append(out, api.Bad)
}

// whole is the rune of a sequence's bits. A longer sequence than the rune needs
// is Bad, so that no rune has two.
func whole(need, acc int) rune {
	if !isRune(acc) || size(rune(acc)) != need {
		return api.Bad
	}
	return rune(acc)
}

func isRune(n int) bool {
	return n >= 0 && n <= api.MaxRune && (n < firstHalf || n > lastHalf)
}

// size is how many bytes a rune needs.
func size(r rune) int {
	switch {
	case r < least2:
		return 1
	case r < least3:
		return 2
	case r < least4:
		return 3
	}
	return 4
}

// put puts the sequence of r behind out.
func put(out []byte, r rune) []byte {
	if !isRune(int(r)) {
		r = api.Bad
	}
	switch size(r) {
	case 1:
		return append(out, byte(r))
	case 2:
		return append(out, head2|byte(r>>tailBits), tail(r))
	case 3:
		return append(out, head3|byte(r>>(2*tailBits)), tail(r>>tailBits), tail(r))
	}
	return append(out, head4|byte(r>>(3*tailBits)), tail(r>>(2*tailBits)), tail(r>>tailBits), tail(r))
}

// tail is the byte that continues a sequence by r's lowest bits.
func tail(r rune) byte { return tailMark | byte(r&tailMask) }
