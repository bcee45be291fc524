package project

import (
	"slices"

	"weighted/api"
	"weighted/automaton"
	"weighted/semiring"
	"weighted/transducer"
)

// projected returns the automaton over so many symbols with the states of a transducer and its arcs, each with the one of its labels that a function picks.
func projected(t api.Trans, symbols int, label func(api.TArc) int) (api.Auto, api.Errno) {
	if !transducer.Valid(t) {
		return api.Auto{}, api.ErrForm
	}
	out := api.Auto{Ring: t.Ring, Symbols: symbols, States: t.States, Initial: t.Initial, Final: t.Final}
	for _, x := range t.Arcs {
		out.Arcs = append(out.Arcs, api.Arc{From: x.From, Label: label(x), To: x.To, Weight: x.Weight})
	}
	return automaton.Normal(out)
}

// copying returns the transducer in normal form that writes what an automaton in normal form reads. It takes its memory over.
func copying(n api.Auto) api.Trans {
	out := api.Trans{Ring: n.Ring, In: n.Symbols, Out: n.Symbols, States: n.States, Initial: n.Initial, Final: n.Final}
	for _, x := range n.Arcs {
		out.Arcs = append(out.Arcs, api.TArc{From: x.From, In: x.Label, Out: x.Label, To: x.To, Weight: x.Weight})
	}
	return out
}

// chain returns the automaton in normal form that gives a word the weight One, and all others Zero. Its weights share their memory.
func chain(r api.Ring, symbols int, word []int) api.Auto {
	zero, one := semiring.Zero(r), semiring.One(r)
	oneAt := func(state int) []api.Weight {
		weights := slices.Repeat([]api.Weight{zero}, len(word)+1)
		weights[state] = one
		return weights
	}
	out := api.Auto{Ring: r, Symbols: symbols, States: len(word) + 1, Initial: oneAt(0), Final: oneAt(len(word))}
	for i, symbol := range word {
		out.Arcs = append(out.Arcs, api.Arc{From: i, Label: symbol, To: i + 1, Weight: one})
	}
	return out
}
