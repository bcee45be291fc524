package rational

import (
	"math/bits"
	"slices"
)

// coprime reports whether x and y, which are not both 0, have no common divisor other than 1.
func coprime(x, y []uint32) bool {
	if len(x) <= 2 && len(y) <= 2 {
		return smallDivisor(low(x), low(y)) == 1
	}
	return isOne(divisor(x, y))
}

// divisor returns the greatest common divisor of x and y, which are not both 0.
func divisor(x, y []uint32) []uint32 {
	if len(x) <= 2 && len(y) <= 2 {
		return natural(smallDivisor(low(x), low(y)))
	}
	if len(x) == 0 {
		return slices.Clone(y)
	}
	if len(y) == 0 {
		return slices.Clone(x)
	}
	// Powers of 2 are taken out first, because many denominators are nothing else.
	i, k := zeros(x), zeros(y)
	return left(euclid(right(x, i), right(y, k)), min(i, k))
}

// smallDivisor returns the greatest common divisor of x and y, and 0 if both are 0.
func smallDivisor(x, y uint64) uint64 {
	if x == 0 || y == 0 {
		return x | y
	}
	shift := bits.TrailingZeros64(x | y)
	x >>= bits.TrailingZeros64(x)
	for y != 0 {
		y >>= bits.TrailingZeros64(y)
		if x > y {
			x, y = y, x
		}
		y -= x
	}
	return x << shift
}

// euclid returns the greatest common divisor of x and y, which are not 0. It overwrites both.
func euclid(x, y []uint32) []uint32 {
	if order(x, y) < 0 {
		x, y = y, x
	}
	for len(y) > 2 {
		if s := look(x, y); s.count > 0 {
			x, y = s.apply(x, y)
		} else {
			_, rest := divide(x, y)
			x, y = y, rest
		}
	}
	if len(x) > 2 && len(y) > 0 {
		_, rest := divide(x, y)
		x, y = y, rest
	}
	if len(y) == 0 {
		return x
	}
	return natural(smallDivisor(low(x), low(y)))
}

// steps are steps of Euclid's algorithm that are made at once (Lehmer). An even count of them leads from x and y to a x - b y and d y - c x, an odd count to the negatives of these. All four numbers are less than 2^32.
type steps struct {
	a, b, c, d uint64
	count      int
}

// look returns the steps that follow from the leading 64 bits of x and y; x is not less than y and has three limbs or more. The condition of the loop is that of Collins: while it holds, all numbers with these leading bits have had the same quotients. It bounds d as well, because high times d is less than 2^64.
func look(x, y []uint32) steps {
	n := len(x)
	shift := bits.LeadingZeros32(x[n-1])
	high, next := window(x, n, shift), window(y, n, shift)
	var sure steps
	s := steps{a: 1, d: 1}
	for next >= s.d && high-next >= s.b+s.d {
		sure = s
		q := high / next
		high, next = next, high-q*next
		s = steps{s.c, s.d, s.a + q*s.c, s.b + q*s.d, s.count + 1}
	}
	return sure
}

// window returns 64 bits of x: those of the limbs n - 1, n - 2 and n - 3 behind the first shift bits.
func window(x []uint32, n, shift int) uint64 {
	high := uint64(limb(x, n-1))<<limbBits | uint64(limb(x, n-2))
	return high<<shift | uint64(limb(x, n-3))>>(limbBits-shift)
}

// apply makes the steps, at least one, in the memory of x and y. They lead to numbers that are at most y, so the limbs of x behind the end of y cancel.
func (s steps) apply(x, y []uint32) (next, last []uint32) {
	x = x[:len(y)]
	if s.count%2 == 0 {
		combine(x, y, s.a, s.b, s.c, s.d)
		return trimmed(x), trimmed(y)
	}
	combine(y, x, s.b, s.a, s.d, s.c)
	return trimmed(y), trimmed(x)
}

// combine replaces x and y, which have the same number of limbs, by a x - b y and d y - c x. Neither is negative.
func combine(x, y []uint32, a, b, c, d uint64) {
	var first, second balance
	for i, v := range x {
		v, w := uint64(v), uint64(y[i])
		x[i] = first.next(a*v, b*w)
		y[i] = second.next(d*w, c*v)
	}
}

// balance is what is carried from limb to limb of a difference of two multiples.
type balance struct {
	plus, minus uint64
	borrow      uint32
}

// next returns the next limb of the difference, to which plus and minus contribute.
func (b *balance) next(plus, minus uint64) uint32 {
	plus += b.plus
	minus += b.minus
	out, borrow := bits.Sub32(uint32(plus), uint32(minus), b.borrow)
	*b = balance{plus >> limbBits, minus >> limbBits, borrow}
	return out
}
