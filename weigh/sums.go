package weigh

import (
	"iter"
	"slices"

	"weighted/api"
	"weighted/semiring"
)

// sums returns for each state the weight of all paths with a word as labels from any state to it.
func sums(a api.Auto, word []int) []api.Weight {
	var last []api.Weight
	for at := range stages(a, word) {
		last = at
	}
	return last
}

// stages yields what sums returns for the first 0, 1, 2, .. symbols of a word.
func stages(a api.Auto, word []int) iter.Seq[[]api.Weight] {
	return func(yield func([]api.Weight) bool) {
		at := a.Initial
		for _, symbol := range word {
			if !yield(at) {
				return
			}
			at = step(a, at, symbol)
		}
		yield(at)
	}
}

// step returns the weights of the states behind one more symbol.
func step(a api.Auto, at []api.Weight, symbol int) []api.Weight {
	zero := semiring.Zero(a.Ring)
	next := zeros(a.Ring, a.States)
	for _, x := range a.Arcs {
		// Often a word leads to few of the states, so that most arcs add nothing.
		if x.Label == symbol && !semiring.Equal(at[x.From], zero) {
			next[x.To] = semiring.Plus(a.Ring, next[x.To], semiring.Times(a.Ring, at[x.From], x.Weight))
		}
	}
	return next
}

// zeros returns a list of weights Zero that share no memory.
func zeros(r api.Ring, size int) []api.Weight {
	out := make([]api.Weight, size)
	for i := range out {
		out[i] = semiring.Zero(r)
	}
	return out
}

// turned returns the automaton whose paths run from the ends of those of a to their starts, and the word in reverse. The order of the factors of a weight does not matter, so that its forward weights are the backward weights of a.
func turned(a api.Auto, word []int) (api.Auto, []int) {
	a.Initial, a.Final = a.Final, a.Initial
	a.Arcs = slices.Clone(a.Arcs)
	for i, x := range a.Arcs {
		a.Arcs[i].From, a.Arcs[i].To = x.To, x.From
	}
	word = slices.Clone(word)
	slices.Reverse(word)
	return a, word
}
