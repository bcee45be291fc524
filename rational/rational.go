// Package rational is layer 1: see shared/doc/01-rational.md.
package rational

import (
	"cmp"
	"math"
	"slices"

	"weighted/api"
)

// maxPlaces is the greatest number of bits behind the point that Down and Up know.
const maxPlaces = 256

// Valid reports whether x is a rational number in lowest terms.
func Valid(x api.Rat) bool {
	if padded(x.Num) || padded(x.Den) || isOne(x.Den) {
		return false
	}
	if len(x.Num) == 0 {
		return len(x.Den) == 0 && !x.Neg
	}
	return len(x.Den) == 0 || coprime(x.Num, x.Den)
}

// Make returns num / den.
func Make(num, den int) (api.Rat, api.Errno) {
	if den == 0 {
		return api.Rat{}, api.ErrZero
	}
	return reduced((num < 0) != (den < 0), natural(magnitude(num)), natural(magnitude(den))), api.OK
}

// Compare compares two numbers.
func Compare(x, y api.Rat) int {
	x, y = clean(x), clean(y)
	if s, t := sign(x), sign(y); s != t {
		return cmp.Compare(s, t)
	}
	if x.Neg {
		x, y = y, x
	}
	if slices.Equal(x.Den, y.Den) {
		return order(x.Num, y.Num)
	}
	return order(product(x.Num, denominator(y)), product(y.Num, denominator(x)))
}

// Sign returns -1, 0 or 1.
func Sign(x api.Rat) int {
	return sign(clean(x))
}

// Neg returns -x.
func Neg(x api.Rat) api.Rat {
	x = clean(x)
	return signed(!x.Neg, x)
}

// Abs returns the absolute value.
func Abs(x api.Rat) api.Rat {
	return signed(false, clean(x))
}

// Add returns x + y.
func Add(x, y api.Rat) api.Rat {
	return add(clean(x), clean(y))
}

// Sub returns x - y.
func Sub(x, y api.Rat) api.Rat {
	y = clean(y)
	y.Neg = !y.Neg
	return add(clean(x), y)
}

// Mul returns x y.
func Mul(x, y api.Rat) api.Rat {
	x, y = clean(x), clean(y)
	return multiply(x.Neg != y.Neg, x.Num, denominator(x), y.Num, denominator(y))
}

// Div returns x / y.
func Div(x, y api.Rat) (api.Rat, api.Errno) {
	x, y = clean(x), clean(y)
	if len(y.Num) == 0 {
		return api.Rat{}, api.ErrZero
	}
	return multiply(x.Neg != y.Neg, x.Num, denominator(x), denominator(y), y.Num), api.OK
}

// Down returns the greatest multiple of 2^-bits that is at most x.
func Down(x api.Rat, bits int) api.Rat {
	x = clean(x)
	return rounded(x, bits, x.Neg)
}

// Up returns the least multiple of 2^-bits that is at least x.
func Up(x api.Rat, bits int) api.Rat {
	x = clean(x)
	return rounded(x, bits, !x.Neg)
}

// Whole returns the value of an integer that fits into an int.
func Whole(x api.Rat) (v int, ok bool) {
	x = clean(x)
	if len(x.Den) > 0 || len(x.Num) > 2 {
		return 0, false
	}
	size := low(x.Num)
	if x.Neg {
		size--
	}
	if size > math.MaxInt {
		return 0, false
	}
	if x.Neg {
		return -int(size) - 1, true
	}
	return int(size), true
}

// clean returns x, or 0 in its place if it is not Valid.
func clean(x api.Rat) api.Rat {
	if !Valid(x) {
		return api.Rat{}
	}
	return x
}

// magnitude returns the absolute value of v, also that of the least int.
func magnitude(v int) uint64 {
	if v < 0 {
		return -uint64(v)
	}
	return uint64(v)
}

// sign returns -1, 0 or 1 for a valid number.
func sign(x api.Rat) int {
	switch {
	case x.Neg:
		return -1
	case len(x.Num) == 0:
		return 0
	}
	return 1
}

// denominator returns the denominator of a valid number, in its memory or in new memory.
func denominator(x api.Rat) []uint32 {
	if len(x.Den) == 0 {
		return one()
	}
	return x.Den
}

// fraction returns num / den, which are in lowest terms, in their memory.
func fraction(neg bool, num, den []uint32) api.Rat {
	if len(num) == 0 {
		return api.Rat{}
	}
	if isOne(den) {
		den = nil
	}
	return api.Rat{Neg: neg, Num: num, Den: den}
}

// reduced returns num / den, perhaps in their memory; den is not 0.
func reduced(neg bool, num, den []uint32) api.Rat {
	num, den = cancel(num, den)
	return fraction(neg, num, den)
}

// cancel divides x and y, which are not both 0, by their greatest common divisor. It returns them as they are if that is 1.
func cancel(x, y []uint32) ([]uint32, []uint32) {
	if isOne(x) || isOne(y) {
		return x, y
	}
	common := divisor(x, y)
	return part(x, common), part(y, common)
}

// part returns x / y for a divisor y of x: x itself if y is 1.
func part(x, y []uint32) []uint32 {
	if isOne(y) {
		return x
	}
	quotient, _ := divide(x, y)
	return quotient
}

// signed returns the valid number x with another sign.
func signed(neg bool, x api.Rat) api.Rat {
	return fraction(neg, slices.Clone(x.Num), slices.Clone(x.Den))
}

// add returns x + y for valid numbers, one of which may be a 0 that is Neg.
func add(x, y api.Rat) api.Rat {
	if len(x.Den) == 0 && len(y.Den) == 0 {
		neg, total := balanced(x.Neg, x.Num, y.Neg, y.Num)
		return fraction(neg, total, nil)
	}
	b, d := denominator(x), denominator(y)
	common := divisor(b, d)
	b, d = part(b, common), part(d, common)
	neg, total := balanced(x.Neg, product(x.Num, d), y.Neg, product(y.Num, b))
	// total has no divisor in common with b or d as they are now, so that only divisors of common can be cancelled.
	total, common = cancel(total, common)
	return fraction(neg, total, product(product(b, d), common))
}

// balanced returns the sign and the absolute value of a sum of numbers with signs.
func balanced(xNeg bool, x []uint32, yNeg bool, y []uint32) (bool, []uint32) {
	switch {
	case xNeg == yNeg:
		return xNeg, sum(x, y)
	case order(x, y) < 0:
		return yNeg, difference(y, x)
	}
	return xNeg, difference(x, y)
}

// multiply returns a/b times c/d. Both are in lowest terms, so that common divisors stand crosswise; these are taken out while the numbers are small.
func multiply(neg bool, a, b, c, d []uint32) api.Rat {
	a, d = cancel(a, d)
	c, b = cancel(c, b)
	return fraction(neg, product(a, c), product(b, d))
}

// rounded returns the multiple of 2^-places next to x, away from 0 or towards 0.
func rounded(x api.Rat, places int, away bool) api.Rat {
	if places < 0 || places > maxPlaces {
		return api.Rat{}
	}
	count, rest := divide(left(x.Num, places), denominator(x))
	if away && len(rest) > 0 {
		count = sum(count, one())
	}
	shift := min(zeros(count), places)
	return fraction(x.Neg, right(count, shift), left(one(), places-shift))
}
