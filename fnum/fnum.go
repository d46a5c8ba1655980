// Package fnum is layer 1: numbers with a point as keys: see shared/doc/01-fnum.md.
package fnum

import "math"

// sign is the first of a number's bits: those below it are of numbers without it.
const sign = 1 << 63

// size is how many bytes a key has.
const size = 8

// Class is what a number is: 1 is none, 2 -Inf, 3 below 0, 4 -0, 5 0, 6 above 0, 7 +Inf.
// The kinds stand in their order, each one above the next, so a number falls through all that are below its own, and these are counted. No comparison holds for what is no number: it is at the bottom.
func Class(f float64) int {
	class := 0
	switch {
	case f > math.MaxFloat64:
		class++
		fallthrough
	case f > 0:
		class++
		fallthrough
	case f == 0 && !math.Signbit(f):
		class++
		fallthrough
	case f == 0:
		class++
		fallthrough
	case f >= -math.MaxFloat64:
		class++
		fallthrough
	case f < -math.MaxFloat64:
		class++
		fallthrough
	default:
		class++
	}
	return class
}

// Rank is a number's place in their order.
// Bits with the sign grow as their numbers fall, so they are turned round; the others are put behind all of them.
func Rank(f float64) uint64 {
	b := math.Float64bits(f)
	if b < sign {
		return b + sign
	}
	return math.MaxUint64 - b
}

// Less tells whether a stands ahead of b; unlike <, it has a place for -0 and for what is no number.
func Less(a, b float64) bool { return Rank(a) < Rank(b) }

// Key is the number as a key: the highest byte is first, so that keys stand as the ranks do.
func Key(f float64) string {
	r := Rank(f)
	var b [size]byte
	for i := range size {
		b[size-1-i] = byte(r)
		r >>= 8
	}
	return string(b[:])
}

// Back is the number of a key, by its bits, and whether s is one.
func Back(s string) (float64, bool) {
	if len(s) != size {
		return 0, false
	}
	var r uint64
	for i := range size {
		r = r<<8 | uint64(s[i])
	}
	return math.Float64frombits(bitsOf(r)), true
}

// bitsOf takes Rank back: ranks and bits are one to one, so each has just one number.
func bitsOf(r uint64) uint64 {
	if r < sign {
		return math.MaxUint64 - r
	}
	return r - sign
}
