package product_test

import (
	"math"
	"math/rand"
	"slices"
	"testing"

	"weighted/api"
	"weighted/samples"
	"weighted/semiring"
)

// hasBit reports whether the bit of a symbol is set.
func hasBit(symbols uint32, symbol int) bool {
	for range symbol - 1 {
		symbols /= 2
	}
	return symbols%2 == 1
}

// restrictOf returns what P16.3 says of Restrict.
func restrictOf(t *testing.T, a api.Auto, symbols uint32) api.Auto {
	t.Helper()
	out := samples.Normal(t, a)
	arcs := out.Arcs
	out.Arcs = nil
	for _, x := range arcs {
		if x.Label == 0 || hasBit(symbols, x.Label) {
			out.Arcs = append(out.Arcs, x)
		}
	}
	return out
}

func TestRestrict(t *testing.T) {
	source := rand.New(rand.NewSource(10))
	for _, s := range samples.Cases() {
		for range 15 {
			a := samples.Shuffled(source.Intn, s.Random(t, source.Intn, 1+source.Intn(5), source.Intn(20), true))
			for _, symbols := range []uint32{0, 1, 2, 3, 4, 5, math.MaxUint32, math.MaxUint32 - 1, math.MaxUint32 - 2, math.MaxUint32 - 3, 1 << 31} {
				samples.Expect(t, s.Line, restrict(t, a, symbols), restrictOf(t, a, symbols))
				// Bits beyond the alphabet do not matter.
				samples.Expect(t, s.Line, restrict(t, a, symbols), restrict(t, a, symbols&3))
				for _, more := range []uint32{0, 1, 2, 3, math.MaxUint32} {
					samples.Expect(t, s.Line, restrict(t, restrict(t, a, symbols), more), restrict(t, a, symbols&more))
				}
			}
			samples.Expect(t, s.Line, restrict(t, a, 3), samples.Normal(t, a))
		}
	}
}

func TestRestrictOfAllSymbols(t *testing.T) {
	source := rand.New(rand.NewSource(11))
	for _, s := range samples.Cases() {
		one := semiring.One(s.Ring(t))
		for _, count := range []int{1, 2, 31, api.MaxSymbols} {
			a := whole(s.Ring(t), count)
			a.Arcs = append(a.Arcs, api.Arc{Weight: one})
			samples.Expect(t, s.Line, restrict(t, a, math.MaxUint32), samples.Normal(t, a))
			for symbol := 1; symbol <= api.MaxSymbols; symbol++ {
				want := a
				want.Arcs = []api.Arc{{Weight: one}}
				if symbol <= count {
					want.Arcs = append(want.Arcs, api.Arc{Label: symbol, Weight: one})
				}
				samples.Expect(t, s.Line, restrict(t, a, 1<<(symbol-1)), want)
				want = samples.Normal(t, a)
				want.Arcs = slices.DeleteFunc(want.Arcs, func(x api.Arc) bool { return x.Label == symbol })
				samples.Expect(t, s.Line, restrict(t, a, math.MaxUint32-1<<(symbol-1)), want)
			}
			for range 10 {
				symbols := source.Uint32()
				samples.Expect(t, s.Line, restrict(t, a, symbols), restrictOf(t, a, symbols))
			}
		}
	}
}

func TestEmptyLabelsStay(t *testing.T) {
	for _, s := range samples.Cases() {
		const ends = "symbols a b;states 2;initial 0 w0;final 1 w1;initial 1 w2;final 0 w3"
		a := samples.Model(t, s.Fill(ends+";arc 0 a 1 w0;arc 0 - 1 s0;arc 1 b 1 w1;gone 1 - 0;gone 1 a 0;arc 1 - 1 s1;arc 0 b 0 zero", 0))
		for symbols, arcs := range []string{";arc 0 - 1 s0;arc 1 - 1 s1", ";arc 0 - 1 s0;arc 0 a 1 w0;arc 1 - 1 s1", ";arc 0 - 1 s0;arc 1 - 1 s1;arc 1 b 1 w1", ";arc 0 - 1 s0;arc 0 a 1 w0;arc 1 - 1 s1;arc 1 b 1 w1"} {
			samples.Expect(t, s.Line, restrict(t, a, uint32(symbols)), samples.Model(t, s.Fill(ends+arcs, 0)))
		}
	}
}

func TestSeriesOfRestrict(t *testing.T) {
	source := rand.New(rand.NewSource(12))
	for _, s := range samples.Cases() {
		zero := semiring.Zero(s.Ring(t))
		for range 8 {
			a := s.Random(t, source.Intn, 1+source.Intn(4), source.Intn(15), false)
			for symbols := range uint32(4) {
				out := restrict(t, a, symbols)
				for _, word := range samples.Words(t, 2, 3) {
					want := weight(t, a, word)
					if slices.ContainsFunc(word, func(symbol int) bool { return !hasBit(symbols, symbol) }) {
						want = zero
					}
					expect(t, s.Line, out, word, want)
				}
			}
		}
	}
}

func TestRestrictIsAProduct(t *testing.T) {
	// The words with some symbols alone are those to which an automaton with these gives One.
	source := rand.New(rand.NewSource(13))
	for _, s := range samples.Cases() {
		for range 5 {
			a := s.Random(t, source.Intn, 1+source.Intn(4), source.Intn(15), false)
			for symbols := range uint32(4) {
				expectSame(t, s.Line, restrict(t, a, symbols), hadamard(t, a, restrict(t, whole(a.Ring, 2), symbols)), samples.Words(t, 2, 3))
			}
		}
	}
}
