package combine

import (
	"cmp"
	"slices"

	"weighted/api"
	"weighted/automaton"
	"weighted/semiring"
)

// pair returns the normal forms of two automata that go together, or the error that says why they do not.
func pair(a, b api.Auto) (m, n api.Auto, e api.Errno) {
	m, first := automaton.Normal(a)
	n, second := automaton.Normal(b)
	switch {
	case cmp.Or(first, second) != api.OK:
		e = api.ErrForm
	case !semiring.Same(m.Ring, n.Ring):
		e = api.ErrRing
	case m.Symbols != n.Symbols:
		e = api.ErrLabels
	case m.States+n.States > api.MaxStates:
		e = api.ErrLimit
	}
	return m, n, e
}

// beside returns the automaton with the states of two, those of the first one in front. It takes their memory over.
func beside(m, n api.Auto) api.Auto {
	out := m
	out.States += n.States
	out.Initial = slices.Concat(m.Initial, n.Initial)
	out.Final = slices.Concat(m.Final, n.Final)
	for _, x := range n.Arcs {
		x.From += m.States
		x.To += m.States
		out.Arcs = append(out.Arcs, x)
	}
	return out
}

// behind returns the automaton in which paths of the first automaton go on in the second one.
func behind(m, n api.Auto) api.Auto {
	out := beside(m, n)
	out.Initial = slices.Concat(m.Initial, zeros(n))
	out.Final = slices.Concat(zeros(m), n.Final)
	for i := range m.States {
		for j := range n.States {
			w := semiring.Times(m.Ring, m.Final[i], n.Initial[j])
			out.Arcs = append(out.Arcs, api.Arc{From: i, To: m.States + j, Weight: w})
		}
	}
	return out
}

// around returns the automaton in which all paths begin and end in a new state, so that one can follow another.
func around(n api.Auto) api.Auto {
	out, centre, one := n, n.States, semiring.One(n.Ring)
	out.States++
	out.Initial = append(zeros(n), one)
	out.Final = append(zeros(n), one)
	for i := range n.States {
		out.Arcs = append(out.Arcs, api.Arc{From: centre, To: i, Weight: n.Initial[i]}, api.Arc{From: i, To: centre, Weight: n.Final[i]})
	}
	return out
}

// zeros returns Zero for each state.
func zeros(n api.Auto) []api.Weight {
	return slices.Repeat([]api.Weight{semiring.Zero(n.Ring)}, n.States)
}

// finished returns the normal form of an automaton in which no two arcs become one, or ErrLimit. The arcs that the normal form leaves out do not count, but with them the automaton may be too large to have one.
func finished(a api.Auto) (api.Auto, api.Errno) {
	zero := semiring.Zero(a.Ring)
	a.Arcs = slices.DeleteFunc(a.Arcs, func(x api.Arc) bool { return semiring.Equal(x.Weight, zero) })
	if len(a.Arcs) > api.MaxArcs {
		return api.Auto{}, api.ErrLimit
	}
	return automaton.Normal(a)
}
