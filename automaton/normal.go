package automaton

import (
	"cmp"
	"slices"

	"weighted/api"
	"weighted/semiring"
)

// normal returns the normal form of a valid automaton, in new memory.
func normal(a api.Auto) api.Auto {
	return api.Auto{
		Ring:    api.Ring{Kind: a.Ring.Kind, Parts: slices.Clone(a.Ring.Parts)},
		Symbols: a.Symbols,
		States:  a.States,
		Initial: copies(a.Initial, copyWeight),
		Final:   copies(a.Final, copyWeight),
		Arcs:    merged(a.Ring, a.Arcs),
	}
}

// merged returns the arcs of the normal form, in new memory.
func merged(r api.Ring, arcs []api.Arc) []api.Arc {
	sorted := slices.Clone(arcs)
	slices.SortFunc(sorted, compareEnds)
	zero := semiring.Zero(r)
	var out []api.Arc
	for len(sorted) > 0 {
		arc, n := sorted[0], equalAtFront(sorted)
		arc.Weight = total(r, sorted[:n])
		if !semiring.Equal(arc.Weight, zero) {
			out = append(out, arc)
		}
		sorted = sorted[n:]
	}
	return out
}

// compareEnds compares arcs in the order of the normal form. It finds those equal that the normal form makes one.
func compareEnds(x, y api.Arc) int {
	return cmp.Or(cmp.Compare(x.From, y.From), cmp.Compare(x.Label, y.Label), cmp.Compare(x.To, y.To))
}

// equalAtFront returns the number of arcs at the front of a sorted list that differ at most in their weights.
func equalAtFront(sorted []api.Arc) int {
	n := slices.IndexFunc(sorted, func(x api.Arc) bool { return compareEnds(x, sorted[0]) != 0 })
	if n < 0 {
		return len(sorted)
	}
	return n
}

// total returns the sum of the weights of one or more arcs, in new memory. Halves are added up by themselves so that most sums are of short numbers.
func total(r api.Ring, arcs []api.Arc) api.Weight {
	if len(arcs) == 1 {
		return copyWeight(arcs[0].Weight)
	}
	half := len(arcs) / 2
	return semiring.Plus(r, total(r, arcs[:half]), total(r, arcs[half:]))
}

// copies returns a list of copies of the elements.
func copies[T any](list []T, one func(T) T) []T {
	var out []T
	for _, x := range list {
		out = append(out, one(x))
	}
	return out
}

// copyWeight returns a weight in new memory.
func copyWeight(w api.Weight) api.Weight {
	w.Q = copyNumber(w.Q)
	w.Poly = copies(w.Poly, func(m api.Monomial) api.Monomial {
		m.Coef = copyNumber(m.Coef)
		return m
	})
	w.Parts = copies(w.Parts, copyWeight)
	return w
}

// copyNumber returns a number in new memory.
func copyNumber(x api.Rat) api.Rat {
	x.Num, x.Den = slices.Clone(x.Num), slices.Clone(x.Den)
	return x
}
