package rational

import (
	"cmp"
	"math/bits"
	"slices"
)

// The functions of this file and of divide.go and divisor.go compute with natural numbers: limbs of 32 bits, the least significant one first, without a limb 0 at the end. They leave their arguments alone. Their results are new memory, where no comment says otherwise.

// limbBits is the number of bits of a limb.
const limbBits = 32

// trimmed returns x without its limbs 0 at the end, in the memory of x.
func trimmed(x []uint32) []uint32 {
	n := len(x)
	for n > 0 && x[n-1] == 0 {
		n--
	}
	return x[:n]
}

// padded reports whether x has a limb 0 at the end.
func padded(x []uint32) bool {
	return len(x) > 0 && x[len(x)-1] == 0
}

// one returns the number 1.
func one() []uint32 {
	return []uint32{1}
}

// isOne reports whether x is 1.
func isOne(x []uint32) bool {
	return len(x) == 1 && x[0] == 1
}

// natural returns v.
func natural(v uint64) []uint32 {
	return trimmed([]uint32{uint32(v), uint32(v >> limbBits)})
}

// low returns the value of the lowest two limbs.
func low(x []uint32) uint64 {
	return uint64(limb(x, 1))<<limbBits | uint64(limb(x, 0))
}

// limb returns limb i of x, which is 0 behind the end.
func limb(x []uint32, i int) uint32 {
	if i < len(x) {
		return x[i]
	}
	return 0
}

// order returns -1, 0 or 1 as x is less than, equal to or greater than y.
func order(x, y []uint32) int {
	if len(x) != len(y) {
		return cmp.Compare(len(x), len(y))
	}
	for i := len(x) - 1; i >= 0; i-- {
		if x[i] != y[i] {
			return cmp.Compare(x[i], y[i])
		}
	}
	return 0
}

// sum returns x + y.
func sum(x, y []uint32) []uint32 {
	if len(x) < len(y) {
		x, y = y, x
	}
	out := make([]uint32, len(x)+1)
	carry := uint64(0)
	for i := range x {
		carry += uint64(x[i]) + uint64(limb(y, i))
		out[i] = uint32(carry)
		carry >>= limbBits
	}
	out[len(x)] = uint32(carry)
	return trimmed(out)
}

// difference returns x - y for a y that is at most x.
func difference(x, y []uint32) []uint32 {
	out := make([]uint32, len(x))
	borrow := uint32(0)
	for i := range x {
		out[i], borrow = bits.Sub32(x[i], limb(y, i), borrow)
	}
	return trimmed(out)
}

// product returns x y.
func product(x, y []uint32) []uint32 {
	out := make([]uint32, len(x)+len(y))
	for i, v := range x {
		carry := uint64(0)
		row := out[i : i+len(y)]
		for k, w := range y {
			carry += uint64(v)*uint64(w) + uint64(row[k])
			row[k] = uint32(carry)
			carry >>= limbBits
		}
		out[i+len(y)] = uint32(carry)
	}
	return trimmed(out)
}

// left returns x times 2^places.
func left(x []uint32, places int) []uint32 {
	whole, rest := places/limbBits, places%limbBits
	out := make([]uint32, whole+len(x)+1)
	for i, v := range x {
		wide := uint64(v) << rest
		out[whole+i] |= uint32(wide)
		out[whole+i+1] = uint32(wide >> limbBits)
	}
	return trimmed(out)
}

// right returns the whole part of x divided by 2^places.
func right(x []uint32, places int) []uint32 {
	whole, rest := places/limbBits, places%limbBits
	if whole >= len(x) {
		return nil
	}
	out := slices.Clone(x[whole:])
	for i := range out {
		wide := uint64(limb(out, i+1))<<limbBits | uint64(out[i])
		out[i] = uint32(wide >> rest)
	}
	return trimmed(out)
}

// zeros returns the number of bits 0 at the low end of x, and 0 for the number 0.
func zeros(x []uint32) int {
	for i, v := range x {
		if v != 0 {
			return i*limbBits + bits.TrailingZeros32(v)
		}
	}
	return 0
}
