package rules

import (
	"slices"
	"testing"

	"weighted/api"
	"weighted/samples"
	"weighted/transducer"
)

func TestTransducer(t *testing.T) {
	for _, text := range texts() {
		a, table := parsed(t, text)
		weights := weightsOf(a)
		b := behind(a, table, weights[1], [][2]int{{0, 1}, {1, 2}, {0, 2}})
		var all []any
		for _, m := range []api.Auto{a, b, behind(a, table, weights[1], [][2]int{{0, 1}, {1, 0}})} {
			// Equal arcs in another order, some of whose labels stand on the other side.
			x, y := samples.Copying(m), samples.Reading(m, m.Symbols)
			x.Arcs = slices.Concat(x.Arcs, y.Arcs, samples.Turned(y).Arcs, x.Arcs)
			slices.Reverse(x.Arcs)
			all = append(all, x, y, samples.Turned(y))
		}
		wrong := samples.Copying(b)
		wrong.Initial = append(slices.Clone(wrong.Initial), api.Weight{})
		wide := samples.Copying(b)
		wide.Out++
		all = append(all, wrong, wide, nil)
		words := []any{nil, []int{1}, []int{1, 1, 1}, []int{0}, []int{99}, slices.Repeat([]int{1}, api.MaxWord+1)}
		for _, x := range all {
			obey(t, transducer.Valid, x)
			obey(t, transducer.Normal, x)
			obey(t, transducer.Loops, x)
			for _, y := range all {
				obey(t, transducer.Same, x, y)
			}
			for _, in := range words {
				for _, out := range words {
					obey(t, transducer.Weight, x, in, out)
				}
			}
		}
	}
}
