package rules

import (
	"slices"
	"testing"

	"weighted/api"
	"weighted/trim"
)

func TestTrim(t *testing.T) {
	for _, text := range texts() {
		a, _ := parsed(t, text)
		// States in front of the others that nothing leads to, so that all numbers change, and equal arcs in another order.
		b := a
		b.States = a.States + 2
		if a.States > 0 {
			b.Initial = append(slices.Repeat([]api.Weight{a.Initial[a.States-1]}, 2), a.Initial...)
			b.Final = append(slices.Repeat([]api.Weight{a.Final[0]}, 2), a.Final...)
		}
		b.Arcs = append(slices.Clone(a.Arcs), a.Arcs...)
		for i := range b.Arcs {
			b.Arcs[i].From += 2
			b.Arcs[i].To += 2
		}
		slices.Reverse(b.Arcs)
		for range 2 {
			for _, x := range []api.Auto{a, b} {
				obey(t, trim.Useful, x)
				obey(t, trim.Trim, x)
			}
			// The second round has automata that are not valid.
			a.Initial = append(a.Initial, api.Weight{})
			b.Symbols = 0
		}
	}
	obey(t, trim.Useful, nil)
	obey(t, trim.Trim, nil)
}
