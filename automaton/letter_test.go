package automaton

import (
	"testing"

	"weighted/api"
	"weighted/semiring"
)

// checkNoLetter checks that there is an error, and no automaton.
func checkNoLetter(t *testing.T, r api.Ring, symbols, symbol int, w api.Weight, want api.Errno) {
	t.Helper()
	if got, e := Letter(r, symbols, symbol, w); e != want || !isZeroValue(got) {
		t.Errorf("%v, %d symbols, symbol %d: %v, %v, not %v", r, symbols, symbol, got, e, want)
	}
}

// letter returns the automaton that Letter is to return for a weight of a ring.
func letter(r api.Ring, symbols, symbol int, w api.Weight) api.Auto {
	zero, one := semiring.Zero(r), semiring.One(r)
	if symbol == 0 {
		return api.Auto{Ring: r, Symbols: symbols, States: 1, Initial: []api.Weight{w}, Final: []api.Weight{one}}
	}
	a := api.Auto{Ring: r, Symbols: symbols, States: 2, Initial: []api.Weight{one, zero}, Final: []api.Weight{zero, one}}
	if !semiring.Equal(w, zero) {
		a.Arcs = []api.Arc{{From: 0, Label: symbol, To: 1, Weight: w}}
	}
	return a
}

func TestLetter(t *testing.T) {
	for _, s := range ringCases() {
		for _, symbols := range []int{1, 2, 3, api.MaxSymbols - 1, api.MaxSymbols} {
			for symbol := range symbols + 1 {
				for _, w := range readAll(t, s.ring, s.texts...) {
					got, e := Letter(s.ring, symbols, symbol, w)
					if e != api.OK {
						t.Errorf("%v, %d symbols, symbol %d: %v", s.ring, symbols, symbol, e)
					}
					want := letter(s.ring, symbols, symbol, w)
					checkSame(t, "Letter", got, want)
					checkSame(t, "normal form of Letter", mustNormal(t, got), want)
				}
			}
		}
	}
}

func TestLetterOfAllRings(t *testing.T) {
	for a := api.Rational; a <= api.Polynomial; a++ {
		for b := api.Rational; b <= api.Polynomial; b++ {
			for _, r := range []api.Ring{{Kind: a}, product(a, b), product(b, a, b)} {
				for symbol := range 3 {
					got, e := Letter(r, 2, symbol, semiring.One(r))
					checkSame(t, "Letter", got, letter(r, 2, symbol, semiring.One(r)))
					if e != api.OK {
						t.Errorf("%v: %v", r, e)
					}
				}
			}
		}
	}
}

func TestLetterHasItsSeries(t *testing.T) {
	for _, s := range ringCases() {
		zero := semiring.Zero(s.ring)
		for symbol := range 3 {
			for _, w := range readAll(t, s.ring, s.texts...) {
				a, _ := Letter(s.ring, 2, symbol, w)
				for _, word := range [][]int{nil, {1}, {2}, {1, 1}, {1, 2}, {2, 1}, {2, 2}, {1, 1, 1}} {
					want := zero
					if symbol == 0 && len(word) == 0 || len(word) == 1 && word[0] == symbol {
						want = w
					}
					if got := labelled(a, word); !semiring.Equal(got, want) {
						t.Errorf("%v, symbol %d: %v has the weight %v, not %v", s.ring, symbol, word, got, want)
					}
				}
			}
		}
	}
}

func TestLetterWithoutWeight(t *testing.T) {
	for _, s := range ringCases() {
		for symbol := range 4 {
			for i, w := range s.wrong {
				got, e := Letter(s.ring, 3, symbol, w)
				checkSame(t, "no weight", got, letter(s.ring, 3, symbol, semiring.Zero(s.ring)))
				if e != api.OK {
					t.Errorf("%v: weight %d: %v", s.ring, i, e)
				}
			}
		}
	}
}

func TestLetterErrors(t *testing.T) {
	for _, r := range wrongRings() {
		for _, symbols := range []int{1, 0, -1, api.MaxSymbols, api.MaxSymbols + 1} {
			for _, symbol := range []int{0, 1, -1, api.MaxSymbols, api.MaxSymbols + 1} {
				checkNoLetter(t, r, symbols, symbol, api.Weight{}, api.ErrRing)
				checkNoLetter(t, r, symbols, symbol, api.Weight{Cost: -1}, api.ErrRing)
			}
		}
	}
	for _, s := range ringCases() {
		for _, w := range []api.Weight{semiring.One(s.ring), semiring.Zero(s.ring), s.wrong[0]} {
			for _, symbols := range append(outside(), 0, api.MaxSymbols+1) {
				for _, symbol := range append(outside(), 0, 1, symbols, symbols+1) {
					checkNoLetter(t, s.ring, symbols, symbol, w, api.ErrRange)
				}
			}
			for symbols := 1; symbols <= api.MaxSymbols; symbols++ {
				for _, symbol := range append(outside(), symbols+1, symbols+2) {
					checkNoLetter(t, s.ring, symbols, symbol, w, api.ErrLabels)
				}
			}
		}
	}
}
