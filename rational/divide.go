package rational

import (
	"math/bits"
	"slices"
)

// divide returns the quotient and the remainder of x and y, which is not 0.
func divide(x, y []uint32) (quotient, remainder []uint32) {
	if order(x, y) < 0 {
		return nil, slices.Clone(x)
	}
	if len(y) == 1 {
		quotient = slices.Clone(x)
		rest := divideLimb(quotient, y[0])
		return trimmed(quotient), natural(uint64(rest))
	}
	// With the top bit of the divisor set, the guesses of digit are nearly right.
	shift := bits.LeadingZeros32(y[len(y)-1])
	divisor := left(y, shift)
	rest := make([]uint32, len(x)+1)
	copy(rest, left(x, shift))
	quotient = make([]uint32, len(x)-len(y)+1)
	for i := len(quotient) - 1; i >= 0; i-- {
		quotient[i] = digit(rest[i:i+len(y)+1], divisor)
	}
	return trimmed(quotient), right(trimmed(rest), shift)
}

// divideLimb replaces x by its quotient, which may have limbs 0 at the end, and returns the remainder.
func divideLimb(x []uint32, d uint32) uint32 {
	rest := uint32(0)
	for i := len(x) - 1; i >= 0; i-- {
		x[i], rest = bits.Div32(rest, x[i], d)
	}
	return rest
}

// digit replaces x by its remainder and returns the quotient of x and y, which is a limb: x has one limb more than y, and is less than y times 2^32; y has two limbs or more, and its top bit is set.
func digit(x, y []uint32) uint32 {
	n := len(y)
	top := uint64(x[n])<<limbBits | uint64(x[n-1])
	guess := min(top/uint64(y[n-1]), 1<<limbBits-1)
	rest := top - guess*uint64(y[n-1])
	// The guess is never too small. The second limb of y shows nearly every guess that is too great.
	for rest < 1<<limbBits && guess*uint64(y[n-2]) > rest<<limbBits|uint64(x[n-2]) {
		guess--
		rest += uint64(y[n-1])
	}
	if subtractTimes(x, y, guess) {
		guess--
		addBack(x, y)
	}
	return uint32(guess)
}

// subtractTimes replaces x by x - y times and reports whether that is negative; the limbs then wrap around.
func subtractTimes(x, y []uint32, times uint64) bool {
	carry, borrow := uint64(0), uint32(0)
	for i, v := range y {
		carry += uint64(v) * times
		x[i], borrow = bits.Sub32(x[i], uint32(carry), borrow)
		carry >>= limbBits
	}
	x[len(y)], borrow = bits.Sub32(x[len(y)], uint32(carry), borrow)
	return borrow != 0
}

// addBack replaces x by x + y, where the last carry cancels a borrow.
func addBack(x, y []uint32) {
	carry := uint32(0)
	for i, v := range y {
		x[i], carry = bits.Add32(x[i], v, carry)
	}
	x[len(y)] += carry
}
