package rules

import (
	"slices"
	"testing"

	"weighted/api"
	"weighted/combine"
)

func TestCombine(t *testing.T) {
	var before api.Auto
	for _, text := range texts() {
		a, table := parsed(t, text)
		weights := append(weightsOf(a), api.Weight{}, api.Weight{Cost: -1})
		b := behind(a, table, weights[1], [][2]int{{0, 1}, {1, 2}, {0, 0}})
		// Equal arcs in another order.
		c := b
		c.Arcs = append(slices.Clone(b.Arcs), b.Arcs...)
		slices.Reverse(c.Arcs)
		wrong := a
		wrong.Initial = append(slices.Clone(a.Initial), api.Weight{})
		wide := a
		wide.Symbols++
		// The automaton of the text before has another ring, or other symbols.
		all := []any{a, b, c, wrong, wide, before, nil}
		for _, x := range all {
			for _, y := range all {
				obey(t, combine.Union, x, y)
				obey(t, combine.Concat, x, y)
			}
			obey(t, combine.Star, x)
			obey(t, combine.Reverse, x)
			for _, w := range weights {
				obey(t, combine.Scale, x, w)
			}
		}
		before = a
	}
}
