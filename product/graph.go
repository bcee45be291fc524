package product

import (
	"iter"
	"slices"

	"weighted/api"
)

// pair is a state of the first automaton and one of the second.
type pair struct{ first, second int }

// place is a state and the label of arcs that lead from it.
type place struct{ state, label int }

// graph holds the arcs of two automata by where they lead from.
type graph struct {
	symbols       int
	first, second map[place][]api.Arc
}

// newGraph returns the graph of the arcs of two automata with so many symbols.
func newGraph(symbols int, first, second []api.Arc) graph {
	return graph{symbols: symbols, first: leaving(first), second: leaving(second)}
}

// leaving returns arcs by where they lead from.
func leaving(arcs []api.Arc) map[place][]api.Arc {
	out := map[place][]api.Arc{}
	for _, x := range arcs {
		at := place{x.From, x.Label}
		out[at] = append(out[at], x)
	}
	return out
}

// turned returns arcs that lead back.
func turned(arcs []api.Arc) []api.Arc {
	out := slices.Clone(arcs)
	for i, x := range arcs {
		out[i].From, out[i].To = x.To, x.From
	}
	return out
}

// steps yields each arc that leads from the first state of a pair with each arc that leads from the second one and has the same label.
func (g graph) steps(at pair) iter.Seq2[api.Arc, api.Arc] {
	return func(yield func(x, y api.Arc) bool) {
		for label := 1; label <= g.symbols; label++ {
			for _, x := range g.first[place{at.first, label}] {
				for _, y := range g.second[place{at.second, label}] {
					if !yield(x, y) {
						return
					}
				}
			}
		}
	}
}

// reached returns the pairs to which steps lead from some pairs, and these.
func (g graph) reached(from []pair) map[pair]bool {
	out := map[pair]bool{}
	for _, at := range from {
		out[at] = true
	}
	for next := from; len(next) > 0; next = next[1:] {
		for x, y := range g.steps(next[0]) {
			if to := (pair{x.To, y.To}); !out[to] {
				out[to] = true
				next = append(next, to)
			}
		}
	}
	return out
}
