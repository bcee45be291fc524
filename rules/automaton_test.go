package rules

import (
	"slices"
	"testing"

	"weighted/api"
	"weighted/automaton"
)

func TestAutomaton(t *testing.T) {
	for _, text := range texts() {
		a, table := parsed(t, text)
		// Arcs that the normal form puts in another order, and equal ones.
		a.Arcs = append(slices.Clone(a.Arcs), a.Arcs...)
		slices.Reverse(a.Arcs)
		to := make([]int, a.States)
		for i := range to {
			to[i] = (i + 1) % a.States
		}
		weights := append(slices.Clone(a.Initial), api.Weight{}, api.Weight{Cost: -1})
		for range 2 {
			obey(t, automaton.Valid, a)
			obey(t, automaton.Normal, a)
			obey(t, automaton.Same, a, a)
			obey(t, automaton.Renumber, a, to)
			obey(t, automaton.Renumber, a, append(slices.Clone(to), 0))
			for _, w := range weights {
				for symbol := range len(table) + 2 {
					obey(t, automaton.Letter, a.Ring, len(table), symbol, w)
				}
			}
			// The second round has an automaton that is not valid.
			a.Initial = append(a.Initial, api.Weight{})
		}
	}
}
