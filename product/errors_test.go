package product_test

import (
	"math"
	"slices"
	"testing"

	"weighted/api"
	"weighted/product"
	"weighted/samples"
)

// failPair checks that Hadamard answers an error for two automata.
func failPair(t *testing.T, what string, a, b api.Auto, want api.Errno) {
	t.Helper()
	out, e := product.Hadamard(a, b)
	samples.Fail(t, what, out, e, want)
}

// failBoth checks that Hadamard answers an error for two automata in both orders.
func failBoth(t *testing.T, what string, a, b api.Auto, want api.Errno) {
	t.Helper()
	failPair(t, what, a, b, want)
	failPair(t, what+", exchanged", b, a, want)
}

// failQuotients checks that both quotients answer an error.
func failQuotients(t *testing.T, what string, a api.Auto, word []int, want api.Errno) {
	t.Helper()
	out, e := product.LeftQuotient(a, word)
	samples.Fail(t, "LeftQuotient, "+what, out, e, want)
	out, e = product.RightQuotient(a, word)
	samples.Fail(t, "RightQuotient, "+what, out, e, want)
}

func TestAutomataThatAreNotValid(t *testing.T) {
	for _, s := range samples.Cases() {
		right := whole(s.Ring(t), 2)
		for what, wrong := range s.Invalid(t) {
			what = s.Line + ": " + what
			failBoth(t, what, wrong, right, api.ErrForm)
			failPair(t, what, wrong, wrong, api.ErrForm)
			for _, word := range [][]int{nil, {1}, {0}, {33}, slices.Repeat([]int{1}, api.MaxWord+1)} {
				failQuotients(t, what, wrong, word, api.ErrForm)
			}
			for _, symbols := range []uint32{0, 1, 3, math.MaxUint32} {
				out, e := product.Restrict(wrong, symbols)
				samples.Fail(t, what, out, e, api.ErrForm)
			}
		}
	}
}

func TestDifferentRings(t *testing.T) {
	lines := samples.Lines()
	for i, line := range lines {
		for k, other := range lines {
			a, b := samples.Model(t, line+";symbols a;states 1"), samples.Model(t, other+";symbols a;states 1")
			if i == k {
				hadamard(t, a, b)
				continue
			}
			failPair(t, line+" and "+other, a, b, api.ErrRing)
			failBoth(t, line+" and "+other, a, samples.Model(t, other+";symbols a b;states 0"), api.ErrRing)
		}
	}
}

func TestDifferentSymbols(t *testing.T) {
	for _, s := range samples.Cases() {
		r := s.Ring(t)
		for m := range api.MaxSymbols {
			for n := range api.MaxSymbols {
				a, b := whole(r, m+1), api.Auto{Ring: r, Symbols: n + 1}
				if m == n {
					samples.Expect(t, s.Line, hadamard(t, a, b), b)
				} else {
					failBoth(t, s.Line, a, b, api.ErrLabels)
				}
			}
		}
	}
}

func TestEmptyLabels(t *testing.T) {
	for _, s := range samples.Cases() {
		b := whole(s.Ring(t), 2)
		none := api.Auto{Ring: b.Ring, Symbols: 2}
		// Also an empty label of a state that is not useful counts, and one whose weights have a sum that is not Zero.
		for _, text := range []string{
			"symbols a b;states 2;initial 0 one;final 1 w0;arc 0 a 1 w1;arc 0 - 1 s0",
			"symbols a b;states 2;initial 0 one;final 1 w0;arc 0 a 1 w1;arc 1 - 1 s0",
			"symbols a b;states 3;initial 0 one;final 1 w0;arc 0 a 1 w1;arc 2 - 1 s0",
			"symbols a b;states 3;initial 0 one;final 1 w0;arc 0 a 1 w1;arc 2 - 2 s0",
			"symbols a b;states 3;initial 0 one;final 1 w0;arc 0 a 1 w1;arc 1 - 2 s0",
			"symbols a b;states 1;arc 0 - 0 s0",
			"symbols a b;states 2;gone 0 - 1;arc 0 - 1 w0",
			"symbols a b;states 2;gone 0 - 1;gone 1 - 0;arc 1 - 0 w0",
		} {
			a := samples.Model(t, s.Fill(text, 0))
			if !hasEmpty(samples.Normal(t, a)) {
				t.Fatalf("%s: no empty label: %s", s.Line, text)
			}
			failBoth(t, s.Line+": "+text, a, b, api.ErrEpsilon)
			failBoth(t, s.Line+": "+text, a, none, api.ErrEpsilon)
			failPair(t, s.Line+": "+text, a, a, api.ErrEpsilon)
			for _, word := range [][]int{nil, {1}, {0}, {3}, slices.Repeat([]int{1}, api.MaxWord+1)} {
				failQuotients(t, s.Line+": "+text, a, word, api.ErrEpsilon)
			}
		}
	}
}

func TestErrorsInTheirOrder(t *testing.T) {
	for _, s := range samples.Cases() {
		r := s.Ring(t)
		full, small := sized(t, r, 64, 2048), sized(t, r, 3, 1)
		empty, narrow := full, full
		empty.Arcs = slices.Clone(full.Arcs)
		empty.Arcs[77].Label = 0
		narrow.Symbols--
		narrowAndEmpty := empty
		narrowAndEmpty.Symbols--
		strange := samples.Sized(api.Ring{Kind: api.Product, Parts: []int{api.Sets, api.Sets}}, 64, 1)
		strangeAndNarrow := strange
		strangeAndNarrow.Symbols = 5
		broken := empty
		broken.Final = broken.Final[1:]
		brokenAndStrange := strangeAndNarrow
		brokenAndStrange.Initial = brokenAndStrange.Initial[1:]
		for _, x := range []struct {
			a, b api.Auto
			want api.Errno
		}{
			{full, empty, api.ErrEpsilon},
			{small, empty, api.ErrEpsilon},
			{empty, empty, api.ErrEpsilon},
			{full, narrow, api.ErrLabels},
			{small, narrow, api.ErrLabels},
			{empty, narrow, api.ErrLabels},
			{full, narrowAndEmpty, api.ErrLabels},
			{empty, narrowAndEmpty, api.ErrLabels},
			{full, strange, api.ErrRing},
			{empty, strange, api.ErrRing},
			{narrow, strange, api.ErrRing},
			{narrowAndEmpty, strangeAndNarrow, api.ErrRing},
			{full, broken, api.ErrForm},
			{empty, broken, api.ErrForm},
			{narrow, broken, api.ErrForm},
			{narrowAndEmpty, broken, api.ErrForm},
			{strange, broken, api.ErrForm},
			{strangeAndNarrow, broken, api.ErrForm},
			{full, brokenAndStrange, api.ErrForm},
			{empty, brokenAndStrange, api.ErrForm},
			{broken, brokenAndStrange, api.ErrForm},
			{api.Auto{}, full, api.ErrForm},
			{api.Auto{}, api.Auto{}, api.ErrForm},
		} {
			failBoth(t, s.Line, x.a, x.b, x.want)
		}
	}
}

func TestWordsThatAreNotValid(t *testing.T) {
	long := slices.Repeat([]int{1}, api.MaxWord+1)
	for _, s := range samples.Cases() {
		for _, symbols := range []int{1, 2, 31, api.MaxSymbols} {
			for _, a := range []api.Auto{whole(s.Ring(t), symbols), {Ring: s.Ring(t), Symbols: symbols}} {
				for _, word := range [][]int{{0}, {-1}, {symbols + 1}, {33}, {1, 0}, {1, 1, symbols + 1, 1}, {0, 1}, {math.MinInt}, {math.MaxInt}, long, slices.Concat(long, long), slices.Repeat([]int{0}, api.MaxWord+1)} {
					failQuotients(t, s.Line, a, word, api.ErrLabels)
				}
				left(t, a, []int{symbols})
				right(t, a, []int{symbols})
				samples.Expect(t, s.Line, left(t, a, long[1:]), a)
				samples.Expect(t, s.Line, right(t, a, long[1:]), a)
			}
		}
	}
}
