package rules

import (
	"slices"
	"testing"

	"weighted/api"
	"weighted/samples"
	"weighted/transducer"
)

// transducers returns the automaton of a text, and transducers that are made of it: some that are valid, one that is not, one with one more symbol on a side, and none.
func transducers(t *testing.T, text string) (api.Auto, []any) {
	t.Helper()
	a, table := parsed(t, text)
	weights := weightsOf(a)
	b := behind(a, table, weights[1], [][2]int{{0, 1}, {1, 2}, {0, 2}})
	var all []any
	for _, m := range []api.Auto{a, b, behind(a, table, weights[1], [][2]int{{0, 1}, {1, 0}})} {
		// Equal arcs in another order, some of whose labels stand on the other side.
		x, y := samples.Copying(m), samples.Reading(m, m.Symbols)
		x.Arcs = slices.Concat(x.Arcs, y.Arcs, samples.Turned(y).Arcs, x.Arcs)
		slices.Reverse(x.Arcs)
		all = append(all, x, y, samples.Turned(y))
	}
	wrong := samples.Copying(b)
	wrong.Initial = append(slices.Clone(wrong.Initial), api.Weight{})
	wide := samples.Copying(b)
	wide.Out++
	return a, append(all, wrong, wide, nil)
}

func TestTransducer(t *testing.T) {
	for _, text := range texts() {
		_, all := transducers(t, text)
		words := []any{nil, []int{1}, []int{1, 1, 1}, []int{0}, []int{99}, slices.Repeat([]int{1}, api.MaxWord+1)}
		for _, x := range all {
			obey(t, transducer.Valid, x)
			obey(t, transducer.Normal, x)
			obey(t, transducer.Loops, x)
			for _, y := range all {
				obey(t, transducer.Same, x, y)
			}
			for _, in := range words {
				for _, out := range words {
					obey(t, transducer.Weight, x, in, out)
				}
			}
		}
	}
}
