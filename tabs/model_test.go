package tabs_test

import (
	"math"
	"math/rand"
)

// A second, plain reading of the chapter: each column of 0 to 63 is told apart
// by itself, and a number is taken apart and made by dividing, not by shifts.

type stops [64]bool

// stopsOf reads a number.
func stopsOf(t uint64) stops {
	var s stops
	for col := range s {
		s[col] = t%2 == 1
		t /= 2
	}
	return s
}

// number is what stopsOf reads.
func (s stops) number() uint64 {
	var t uint64
	for col := len(s) - 1; col >= 0; col-- {
		t *= 2
		if s[col] {
			t++
		}
	}
	return t
}

func isColumn(col int) bool { return 0 <= col && col <= 63 }

func newStops(cols int) stops {
	var s stops
	for col := 8; col <= 63 && col < cols; col += 8 {
		s[col] = true
	}
	return s
}

func (s stops) has(col int) bool { return isColumn(col) && s[col] }

// set is s with all of these columns there, or with none of them.
func (s stops) set(there bool, cols []int) stops {
	for _, col := range cols {
		if isColumn(col) {
			s[col] = there
		}
	}
	return s
}

func (s stops) next(col, cols int) int {
	for stop := range s {
		if s[stop] && stop > col && stop < cols {
			return stop
		}
	}
	return cols - 1
}

func (s stops) list() []int {
	var l []int
	for col := range s {
		if s[col] {
			l = append(l, col)
		}
	}
	return l
}

// far are columns that are none, beside the edges and far from them: what a
// shift in fewer bits would take for a column is among them.
var far = []int{
	math.MinInt, math.MinInt + 1, math.MinInt + 8, math.MinInt + 63, math.MinInt32, -1 << 40, -65536,
	-257, -256, -128, -65, -64, -63, -57, -56, -33, -32, -9, -8, -7, -2, -1,
	64, 65, 71, 72, 80, 95, 96, 127, 128, 191, 192, 255, 256, 257, 264, 320, 512, 65535, 65536, 65544,
	1 << 30, math.MaxInt32, 1 << 32, 1<<32 + 8, 1 << 40, 1 << 62, math.MaxInt - 63, math.MaxInt - 1, math.MaxInt,
}

// columnsAll are all columns, and those that are none.
func columnsAll() []int {
	l := append([]int(nil), far...)
	for col := range 64 {
		l = append(l, col)
	}
	return l
}

// numbers are stops of all kinds: none, all, one, all but one, all from a column
// on and ahead of it, and numbers by chance, the same ones each time.
func numbers() []uint64 {
	l := []uint64{0, math.MaxUint64, 0x5555555555555555, 0xAAAAAAAAAAAAAAAA, 0x0123456789ABCDEF}
	var ahead stops
	for col := range 64 {
		var one stops
		one[col] = true
		t, rising := one.number(), ahead.number()
		l = append(l, t, math.MaxUint64-t, rising, math.MaxUint64-rising)
		ahead[col] = true
	}
	chance := rand.New(rand.NewSource(9))
	for range 100 {
		few := chance.Uint64() & chance.Uint64() & chance.Uint64()
		l = append(l, chance.Uint64(), few, math.MaxUint64-few)
	}
	return l
}
