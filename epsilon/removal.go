package epsilon

import (
	"cmp"
	"slices"

	"weighted/api"
	"weighted/semiring"
)

// removed is Remove for a normal form, whose memory it takes over, and the star of its matrix.
func removed(n api.Auto, star [][]api.Weight) (api.Auto, api.Errno) {
	out := api.Auto{Ring: n.Ring, Symbols: n.Symbols, States: n.States, Initial: n.Initial}
	ends, steps := endsOf(n.Final), stepsOf(n.Arcs)
	for i, weights := range star {
		ways := newRow(n.Ring, weights)
		out.Final = append(out.Final, ways.total(ways.reached(ends)))
		for _, arcs := range bundles(ways.reached(steps)) {
			w := ways.total(arcs)
			if isZero(n.Ring, w) {
				continue
			}
			if len(out.Arcs) == api.MaxArcs {
				return api.Auto{}, api.ErrLimit
			}
			out.Arcs = append(out.Arcs, api.Arc{From: i, Label: arcs[0].Label, To: arcs[0].To, Weight: w})
		}
	}
	return out, api.OK
}

// endsOf returns for each state an arc out of the automaton, with its Final.
func endsOf(final []api.Weight) []api.Arc {
	var out []api.Arc
	for k, w := range final {
		out = append(out, api.Arc{From: k, Weight: w})
	}
	return out
}

// stepsOf returns the arcs with symbols, in the order of bundles.
func stepsOf(arcs []api.Arc) []api.Arc {
	out := slices.DeleteFunc(slices.Clone(arcs), func(x api.Arc) bool { return x.Label == 0 })
	slices.SortFunc(out, compareBundles)
	return out
}

// bundles cuts a list of arcs in the order of bundles into these: arcs with the same symbol to the same state, which become one arc.
func bundles(arcs []api.Arc) [][]api.Arc {
	var out [][]api.Arc
	for i, x := range arcs {
		if i == 0 || compareBundles(arcs[i-1], x) != 0 {
			out = append(out, nil)
		}
		out[len(out)-1] = append(out[len(out)-1], x)
	}
	return out
}

// compareBundles compares arcs in the order that the normal form has for those from one state. It finds arcs of one bundle equal.
func compareBundles(x, y api.Arc) int {
	return cmp.Or(cmp.Compare(x.Label, y.Label), cmp.Compare(x.To, y.To))
}

// isZero reports whether a weight is Zero.
func isZero(r api.Ring, w api.Weight) bool {
	return semiring.Equal(w, semiring.Zero(r))
}
