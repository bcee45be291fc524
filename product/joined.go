package product

import (
	"cmp"
	"slices"

	"weighted/api"
	"weighted/automaton"
	"weighted/semiring"
)

// factors returns the normal forms of two automata, or the error that says why they have no product.
func factors(a, b api.Auto) (m, n api.Auto, e api.Errno) {
	m, first := automaton.Normal(a)
	n, second := automaton.Normal(b)
	switch {
	case cmp.Or(first, second) != api.OK:
		e = api.ErrForm
	case !semiring.Same(m.Ring, n.Ring):
		e = api.ErrRing
	case m.Symbols != n.Symbols:
		e = api.ErrLabels
	case hasEmpty(m) || hasEmpty(n):
		e = api.ErrEpsilon
	}
	return m, n, e
}

// hasEmpty reports whether an arc has the empty label.
func hasEmpty(n api.Auto) bool {
	return slices.ContainsFunc(n.Arcs, func(x api.Arc) bool { return x.Label == 0 })
}

// joined returns the automaton whose states are the pairs of states of two automata that have common paths. Arcs that are Zero count for the limit too, so that few products of weights are taken before it is reached.
func joined(m, n api.Auto) (api.Auto, api.Errno) {
	states := common(m, n)
	if len(states) > api.MaxStates {
		return api.Auto{}, api.ErrLimit
	}
	out := api.Auto{Ring: m.Ring, Symbols: m.Symbols, States: len(states)}
	number := map[pair]int{}
	for i, at := range states {
		number[at] = i
		out.Initial = append(out.Initial, semiring.Times(m.Ring, m.Initial[at.first], n.Initial[at.second]))
		out.Final = append(out.Final, semiring.Times(m.Ring, m.Final[at.first], n.Final[at.second]))
	}
	g := newGraph(m.Symbols, m.Arcs, n.Arcs)
	for i, at := range states {
		for x, y := range g.steps(at) {
			to, isState := number[pair{x.To, y.To}]
			if !isState {
				continue
			}
			if len(out.Arcs) == api.MaxArcs {
				return api.Auto{}, api.ErrLimit
			}
			out.Arcs = append(out.Arcs, api.Arc{From: i, Label: x.Label, To: to, Weight: semiring.Times(m.Ring, x.Weight, y.Weight)})
		}
	}
	return out, api.OK
}

// common returns the pairs of states to which arcs with the same labels lead from states with an Initial, and from which they lead to states with a Final, in ascending order. Both states of such a pair are useful. Whether products of weights are Zero does not matter.
func common(m, n api.Auto) []pair {
	front := newGraph(m.Symbols, m.Arcs, n.Arcs).reached(both(m.Ring, m.Initial, n.Initial))
	back := newGraph(m.Symbols, turned(m.Arcs), turned(n.Arcs)).reached(both(m.Ring, m.Final, n.Final))
	var out []pair
	for i := range m.States {
		for k := range n.States {
			if at := (pair{i, k}); front[at] && back[at] {
				out = append(out, at)
			}
		}
	}
	return out
}

// both returns the pairs of states whose weights in two lists are not Zero.
func both(r api.Ring, first, second []api.Weight) []pair {
	zero := semiring.Zero(r)
	var out []pair
	for i, v := range first {
		for k, w := range second {
			if !semiring.Equal(v, zero) && !semiring.Equal(w, zero) {
				out = append(out, pair{i, k})
			}
		}
	}
	return out
}
