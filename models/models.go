// Package models contains what automata and transducers have in common: tests of their parts, copies in new memory, the arcs of a normal form, and arcs whose labels are exchanged. It is no layer.
package models

import (
	"slices"

	"weighted/api"
	"weighted/semiring"
)

// IsAlphabet reports whether there are alphabets of so many symbols.
func IsAlphabet(symbols int) bool {
	return symbols >= 1 && symbols <= api.MaxSymbols
}

// HasStates reports whether a model over a ring may have so many states with these weights. No list has a length below 0.
func HasStates(r api.Ring, states int, initial, final []api.Weight) bool {
	if !semiring.Valid(r) || states > api.MaxStates || len(initial) != states || len(final) != states {
		return false
	}
	isWeight := func(w api.Weight) bool { return semiring.Check(r, w) }
	return All(initial, isWeight) && All(final, isWeight)
}

// All reports whether each element of a list passes a test.
func All[T any](list []T, test func(T) bool) bool {
	for _, x := range list {
		if !test(x) {
			return false
		}
	}
	return true
}

// CopyRing returns a ring in new memory.
func CopyRing(r api.Ring) api.Ring {
	return api.Ring{Kind: r.Kind, Parts: slices.Clone(r.Parts)}
}

// CopyWeights returns weights in new memory.
func CopyWeights(weights []api.Weight) []api.Weight {
	return copies(weights, copyWeight)
}

// copyWeight returns a weight in new memory.
func copyWeight(w api.Weight) api.Weight {
	w.Q = copyNumber(w.Q)
	w.Poly = copies(w.Poly, func(m api.Monomial) api.Monomial {
		m.Coef = copyNumber(m.Coef)
		return m
	})
	w.Parts = CopyWeights(w.Parts)
	return w
}

// copyNumber returns a number in new memory.
func copyNumber(x api.Rat) api.Rat {
	x.Num, x.Den = slices.Clone(x.Num), slices.Clone(x.Den)
	return x
}

// copies returns a list of copies of the elements.
func copies[T any](list []T, one func(T) T) []T {
	var out []T
	for _, x := range list {
		out = append(out, one(x))
	}
	return out
}
