package rules

import (
	"slices"
	"testing"

	"weighted/api"
	"weighted/epsilon"
)

func TestEpsilon(t *testing.T) {
	for _, text := range texts() {
		a, table := parsed(t, text)
		for _, w := range weightsOf(a) {
			// Empty labels onward alone converge. In a loop, or back, some do not.
			for _, ends := range [][][2]int{nil, {{0, 1}}, {{0, 1}, {1, 2}, {0, 2}}, {{0, 0}}, {{1, 0}, {0, 1}}} {
				b := behind(a, table, w, ends)
				obey(t, epsilon.Matrix, b)
				obey(t, epsilon.Remove, b)
				// Equal arcs in another order.
				b.Arcs = append(slices.Clone(b.Arcs), b.Arcs...)
				slices.Reverse(b.Arcs)
				obey(t, epsilon.Matrix, b)
				obey(t, epsilon.Remove, b)
				b.Initial = b.Initial[1:]
				obey(t, epsilon.Matrix, b)
				obey(t, epsilon.Remove, b)
			}
		}
		obey(t, epsilon.Matrix, a)
		obey(t, epsilon.Remove, a)
	}
	obey(t, epsilon.Matrix, nil)
	obey(t, epsilon.Remove, nil)
}

// behind returns a model with three states in front of its own, empty labels of a weight between them, and arcs with this weight and each symbol.
func behind(a api.Auto, table []string, w api.Weight, ends [][2]int) api.Auto {
	const more = 3
	b := a
	b.States += more
	b.Initial = append(slices.Repeat([]api.Weight{w}, more), a.Initial...)
	b.Final = append(slices.Repeat([]api.Weight{w}, more), a.Final...)
	b.Arcs = nil
	for _, x := range a.Arcs {
		x.From += more
		x.To += more
		b.Arcs = append(b.Arcs, x)
	}
	for i := range b.States {
		for symbol := range table {
			b.Arcs = append(b.Arcs, api.Arc{From: i, Label: symbol + 1, To: b.States - 1 - i, Weight: w})
		}
	}
	for _, x := range ends {
		b.Arcs = append(b.Arcs, api.Arc{From: x[0], To: x[1], Weight: w})
	}
	return b
}
