package models

import (
	"slices"

	"weighted/api"
	"weighted/semiring"
)

// Merge returns the arcs of a normal form, in new memory: those between which compare finds no difference are one with the sum of their weights, those with the weight Zero are left out, and the others are in ascending order. weight tells where the weight of an arc is.
func Merge[A any](r api.Ring, arcs []A, compare func(x, y A) int, weight func(*A) *api.Weight) []A {
	sorted := slices.Clone(arcs)
	slices.SortFunc(sorted, compare)
	zero := semiring.Zero(r)
	var out []A
	for len(sorted) > 0 {
		n := equalAtFront(sorted, compare)
		sum := total(r, sorted[:n], weight)
		if !semiring.Equal(sum, zero) {
			*weight(&sorted[0]) = sum
			out = append(out, sorted[0])
		}
		sorted = sorted[n:]
	}
	return out
}

// equalAtFront returns the number of arcs at the front of a sorted list between which there is no difference.
func equalAtFront[A any](sorted []A, compare func(x, y A) int) int {
	n := slices.IndexFunc(sorted, func(x A) bool { return compare(x, sorted[0]) != 0 })
	if n < 0 {
		return len(sorted)
	}
	return n
}

// total returns the sum of the weights of one or more arcs, in new memory. Halves are added up by themselves so that most sums are of short numbers.
func total[A any](r api.Ring, arcs []A, weight func(*A) *api.Weight) api.Weight {
	if len(arcs) == 1 {
		return copyWeight(*weight(&arcs[0]))
	}
	half := len(arcs) / 2
	return semiring.Plus(r, total(r, arcs[:half], weight), total(r, arcs[half:], weight))
}

// Join returns the sum of the products of the elements of two lists of weights, the first of which may be nil if all its weights are Zero.
func Join(r api.Ring, v, w []api.Weight) api.Weight {
	sum := semiring.Zero(r)
	for i := range v {
		sum = semiring.Plus(r, sum, semiring.Times(r, v[i], w[i]))
	}
	return sum
}

// Turned returns arcs that read what others write, and write what these read. Their weights stay in the memory of the others.
func Turned(arcs []api.TArc) []api.TArc {
	out := slices.Clone(arcs)
	for i, x := range arcs {
		out[i].In, out[i].Out = x.Out, x.In
	}
	return out
}
