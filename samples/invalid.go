package samples

import (
	"math"
	"slices"
	"strconv"

	"weighted/api"
	"weighted/automaton"
	"weighted/semiring"
)

// Normal returns the normal form of an automaton that is valid.
func Normal(t Test, a api.Auto) api.Auto {
	t.Helper()
	n, e := automaton.Normal(a)
	if e != api.OK {
		t.Fatalf("%s: no normal form: %v", Shown(a), e)
	}
	return n
}

// Invalid returns automata that are not valid, each for one reason, which names it.
func (c Case) Invalid(t Test) map[string]api.Auto {
	t.Helper()
	out := map[string]api.Auto{"zero value": {}}
	add := func(what string, change func(a *api.Auto)) {
		a := Model(t, c.Fill("symbols a b;states 3;initial 0 w0;final 1 w1;arc 0 - 1 s0;arc 1 b 1 w3", 0))
		change(&a)
		out[what] = a
	}
	addForms(add)
	addArcs(add)
	for i, w := range c.Wrong(t) {
		name := ", weight " + strconv.Itoa(i)
		add("Initial"+name, func(a *api.Auto) { a.Initial[2] = w })
		add("Final"+name, func(a *api.Auto) { a.Final[0] = w })
		add("an empty label"+name, func(a *api.Auto) { a.Arcs[0].Weight = w })
		add("a symbol"+name, func(a *api.Auto) { a.Arcs[1].Weight = w })
		add("an arc of a useless state"+name, func(a *api.Auto) { a.Arcs = append(a.Arcs, api.Arc{From: 2, To: 2, Weight: w}) })
	}
	return out
}

// addForms adds automata in which something beside the arcs and the weights is not valid.
func addForms(add func(what string, change func(a *api.Auto))) {
	add("no ring", func(a *api.Auto) { a.Ring = api.Ring{} })
	add("an unknown ring", func(a *api.Auto) { a.Ring.Kind = 7 })
	add("another ring", func(a *api.Auto) { a.Ring = api.Ring{Kind: 1 + a.Ring.Kind%5} })
	add("a tuple of one part", func(a *api.Auto) { a.Ring = api.Ring{Kind: api.Product, Parts: []int{api.Rational}} })
	add("parts too many", func(a *api.Auto) { a.Ring.Parts = append(slices.Clone(a.Ring.Parts), 1, 1, 1, 1) })
	add("no symbols", func(a *api.Auto) { a.Symbols = 0 })
	add("no symbols, and no states", func(a *api.Auto) { *a = api.Auto{Ring: a.Ring} })
	add("symbols below 0", func(a *api.Auto) { *a = api.Auto{Ring: a.Ring, Symbols: -1} })
	add("too many symbols", func(a *api.Auto) { a.Symbols = api.MaxSymbols + 1 })
	add("states below 0", func(a *api.Auto) { *a = api.Auto{Ring: a.Ring, Symbols: 1, States: -1} })
	add("states far below 0", func(a *api.Auto) { a.States = math.MinInt })
	add("too many states", func(a *api.Auto) { *a = Sized(a.Ring, api.MaxStates+1, 0) })
	add("a state without weights", func(a *api.Auto) { a.States++ })
	add("weights without a state", func(a *api.Auto) { a.States-- })
	add("no Initial", func(a *api.Auto) { a.Initial = nil })
	add("no Final", func(a *api.Auto) { a.Final = nil })
	add("Initial too long", func(a *api.Auto) { a.Initial = append(a.Initial, a.Initial[0]) })
	add("Final too short", func(a *api.Auto) { a.Final = a.Final[:2] })
}

// addArcs adds automata in which the ends, the labels or the number of the arcs are not valid.
func addArcs(add func(what string, change func(a *api.Auto))) {
	add("an arc from no state", func(a *api.Auto) { a.Arcs[1].From = 3 })
	add("an arc to no state", func(a *api.Auto) { a.Arcs[1].To = 3 })
	add("an arc from below 0", func(a *api.Auto) { a.Arcs[1].From = -1 })
	add("an arc to below 0", func(a *api.Auto) { a.Arcs[1].To = math.MinInt })
	add("an empty label from no state", func(a *api.Auto) { a.Arcs[0].From = math.MaxInt })
	add("an empty label to no state", func(a *api.Auto) { a.Arcs[0].To = 3 })
	add("an empty label from below 0", func(a *api.Auto) { a.Arcs[0].From = math.MinInt })
	add("an empty label to below 0", func(a *api.Auto) { a.Arcs[0].To = -1 })
	add("a label behind the last one", func(a *api.Auto) { a.Arcs[1].Label = 3 })
	add("a label below 0", func(a *api.Auto) { a.Arcs[0].Label = -1 })
	add("an arc without states", func(a *api.Auto) { a.States, a.Initial, a.Final = 0, nil, nil })
	add("too many arcs", func(a *api.Auto) { *a = Sized(a.Ring, api.MaxStates, api.MaxArcs+1) })
	add("too many arcs, which are one", func(a *api.Auto) { a.Arcs = slices.Repeat(a.Arcs[1:], api.MaxArcs+1) })
	add("too many empty labels, which are one", func(a *api.Auto) { a.Arcs = slices.Repeat(a.Arcs[:1], api.MaxArcs+1) })
}

// Wrong returns weights that are none of the ring: those that no ring has, alone or as a part of a tuple, and those of other rings.
func (c Case) Wrong(t Test) []api.Weight {
	t.Helper()
	r := c.Ring(t)
	var out []api.Weight
	for _, w := range wrong() {
		out = append(out, w)
		for at := range r.Parts {
			one := semiring.One(r)
			one.Parts[at] = w
			out = append(out, one)
		}
	}
	for _, other := range Cases() {
		for _, w := range other.Weights(t) {
			if !semiring.Check(r, w) {
				out = append(out, w)
			}
		}
	}
	return out
}

// wrong returns weights that no ring has.
func wrong() []api.Weight {
	half, one := api.Rat{Num: []uint32{2}, Den: []uint32{4}}, api.Rat{Num: []uint32{1}}
	return []api.Weight{
		{Q: half}, {Q: api.Rat{Neg: true}}, {Q: api.Rat{Num: []uint32{1, 0}}}, {Q: one, Set: 1},
		{Cost: -1}, {Cost: api.MaxCost + 1}, {Inf: true, Cost: 1}, {Set: 1, Cost: 1}, {Set: 1, Inf: true},
		{Poly: []api.Monomial{{}}}, {Poly: []api.Monomial{{Coef: half}}}, {Poly: []api.Monomial{{Exps: [api.MaxParams]int{api.MaxDegree + 1}, Coef: one}}},
		{Parts: make([]api.Weight, 1)}, {Parts: make([]api.Weight, 4)}, {Cost: 1, Parts: make([]api.Weight, 2)},
	}
}

// Sized returns an automaton over MaxSymbols symbols with so many states and arcs. Initial, Final and the weights of all arcs are One, and no two arcs have the same ends and label.
func Sized(r api.Ring, states, arcs int) api.Auto {
	one := semiring.One(r)
	a := api.Auto{Ring: r, Symbols: api.MaxSymbols, States: states, Initial: slices.Repeat([]api.Weight{one}, states), Final: slices.Repeat([]api.Weight{one}, states)}
	for i := range arcs {
		a.Arcs = append(a.Arcs, api.Arc{From: i % states, Label: i / states / states, To: i / states % states, Weight: one})
	}
	return a
}
