package rules

import (
	"slices"
	"testing"

	"weighted/api"
	"weighted/project"
	"weighted/samples"
)

func TestProject(t *testing.T) {
	for _, text := range texts() {
		a, all := transducers(t, text)
		large := samples.Copying(samples.Sized(a.Ring, api.MaxStates, api.MaxStates))
		large.In = a.Symbols
		for _, x := range append(all, large) {
			obey(t, project.Input, x)
			obey(t, project.Output, x)
			obey(t, project.Invert, x)
			for _, n := range []int{0, 1, 2, 5, api.MaxStates - 1, api.MaxStates, api.MaxWord + 1} {
				obey(t, project.Apply, x, slices.Repeat([]int{1}, n))
			}
			obey(t, project.Apply, x, []int{1, 99})
			obey(t, project.Apply, x, nil)
		}
	}
}

func TestProjectIdentity(t *testing.T) {
	for _, text := range texts() {
		a, table := parsed(t, text)
		for _, w := range weightsOf(a) {
			b := behind(a, table, w, [][2]int{{0, 1}, {1, 2}, {0, 0}})
			obey(t, project.Identity, b)
			// Equal arcs in another order.
			b.Arcs = append(slices.Clone(b.Arcs), b.Arcs...)
			slices.Reverse(b.Arcs)
			obey(t, project.Identity, b)
			b.Initial = b.Initial[1:]
			obey(t, project.Identity, b)
		}
		obey(t, project.Identity, a)
	}
	obey(t, project.Identity, nil)
}
