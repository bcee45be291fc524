package automaton

import (
	"fmt"
	"math"
	"math/rand"
	"slices"
	"testing"

	"weighted/api"
	"weighted/semiring"
)

// ringCase is a ring with texts of weights, the first two of which are Zero and One, and with weights that are none of it.
type ringCase struct {
	ring  api.Ring
	texts []string
	wrong []api.Weight
}

// Numbers and polynomials in the representation that package api describes, and others that are not valid.
var (
	unit      = api.Rat{Num: []uint32{1}}
	half      = api.Rat{Num: []uint32{1}, Den: []uint32{2}}
	minusHalf = api.Rat{Neg: true, Num: []uint32{1}, Den: []uint32{2}}
	threeHalf = api.Rat{Num: []uint32{3}, Den: []uint32{2}}
	unreduced = api.Rat{Num: []uint32{2}, Den: []uint32{4}}
	padded    = api.Rat{Num: []uint32{1, 0}}
	minusZero = api.Rat{Neg: true}
	constant  = []api.Monomial{{Coef: half}}
	blankTerm = []api.Monomial{{Exps: [api.MaxParams]int{1}}}
	ascending = []api.Monomial{{Coef: unit}, {Exps: [api.MaxParams]int{1}, Coef: unit}}
	sixth     = []api.Monomial{{Exps: [api.MaxParams]int{6}, Coef: unit}}
)

// tuple returns a weight of parts.
func tuple(parts ...api.Weight) api.Weight {
	return api.Weight{Parts: parts}
}

// ringCases returns a ring of each kind, and some products.
func ringCases() []ringCase {
	cost := api.Weight{Cost: 3}
	number := api.Weight{Q: half}
	return []ringCase{
		{api.Ring{Kind: api.Rational}, []string{"0", "1", "-1", "1/2", "-1/2", "2", "-7/3", "123456789012345678901234567890/7"},
			[]api.Weight{{Q: unreduced}, {Q: padded}, {Q: minusZero}, {Q: half, Cost: 1}, {Inf: true}, {Set: 1}, {Poly: constant}, tuple(number)}},
		{api.Ring{Kind: api.Tropical}, []string{"inf", "0", "1", "3", "5", "1099511627776"},
			[]api.Weight{{Cost: -1}, {Cost: api.MaxCost + 1}, {Cost: math.MinInt}, {Cost: math.MaxInt}, {Inf: true, Cost: 1}, {Q: unit}, {Set: 1, Cost: 1}, tuple(cost)}},
		{api.Ring{Kind: api.Viterbi}, []string{"0", "1", "1/2", "1/3", "2/3"},
			[]api.Weight{{Q: minusHalf}, {Q: threeHalf}, {Q: unreduced}, {Q: minusZero}, {Q: half, Inf: true}, {Cost: 1}, tuple(number)}},
		{api.Ring{Kind: api.Sets}, []string{"0000000000000000", "ffffffffffffffff", "00000000000000ff", "8000000000000001", "0000000000000f0f"},
			[]api.Weight{{Set: 1, Cost: 1}, {Set: 1, Inf: true}, {Q: unit}, {Poly: constant}, tuple(api.Weight{Set: 1})}},
		{api.Ring{Kind: api.Polynomial}, []string{"0", "1", "a", "-a", "a*b+1/2", "-1/3", "-b+c^5"},
			[]api.Weight{{Poly: blankTerm}, {Poly: ascending}, {Poly: sixth}, {Poly: []api.Monomial{{Coef: unreduced}}}, {Q: unit}, {Poly: constant, Cost: 1}, tuple(api.Weight{Poly: constant})}},
		{product(api.Rational, api.Tropical), []string{"0|inf", "1|0", "1/2|3", "-1/2|5", "-1/2|inf", "0|3"},
			[]api.Weight{{}, tuple(), tuple(number), tuple(cost, number), tuple(number, cost, cost), tuple(number, api.Weight{Cost: -1}), tuple(api.Weight{Q: unreduced}, cost), {Cost: 1, Parts: []api.Weight{number, cost}}}},
		{product(api.Rational, api.Rational), []string{"0|0", "1|1", "1/2|-1/2", "-1/2|1/2", "0|3", "3|0"},
			[]api.Weight{{}, {Q: half}, tuple(number), tuple(number, cost), tuple(cost, number), tuple(number, number, number)}},
		{product(api.Viterbi, api.Sets, api.Polynomial), []string{"0|0000000000000000|0", "1|ffffffffffffffff|1", "1/2|000000000000000f|a", "0|0000000000000000|-a", "1/3|0000000000000000|b^2-1"},
			[]api.Weight{{}, tuple(number, api.Weight{Set: 1}), tuple(number, api.Weight{Set: 1}, number), tuple(number, api.Weight{Set: 1}, api.Weight{Poly: sixth}), tuple(number, api.Weight{Set: 1}, api.Weight{}, api.Weight{})}},
	}
}

// product returns the ring of tuples of kinds.
func product(kinds ...int) api.Ring {
	return api.Ring{Kind: api.Product, Parts: kinds}
}

// wrongRings returns rings that are not valid, each for one reason.
func wrongRings() []api.Ring {
	return []api.Ring{{}, {Kind: -1}, {Kind: 7}, {Kind: math.MinInt}, {Kind: api.Rational, Parts: []int{api.Rational}}, {Kind: api.Tropical, Parts: []int{api.Tropical, api.Tropical}}, product(), product(api.Rational), product(api.Rational, api.Rational, api.Rational, api.Rational), product(api.Rational, api.Product), product(api.Rational, 0)}
}

// read reads a weight that a test relies on.
func read(t *testing.T, r api.Ring, text string) api.Weight {
	t.Helper()
	w, ok := semiring.Parse(r, text)
	if !ok {
		t.Fatalf("%v: no weight: %q", r, text)
	}
	return w
}

// readAll reads weights that a test relies on.
func readAll(t *testing.T, r api.Ring, texts ...string) []api.Weight {
	t.Helper()
	var out []api.Weight
	for _, text := range texts {
		out = append(out, read(t, r, text))
	}
	return out
}

// arcs reads arcs, each of its numbers and its weight: "0 2 1 1/2" leads from 0 with the label 2 to 1.
func arcs(t *testing.T, r api.Ring, texts ...string) []api.Arc {
	t.Helper()
	var out []api.Arc
	for _, text := range texts {
		var x api.Arc
		var weight string
		if n, err := fmt.Sscan(text, &x.From, &x.Label, &x.To, &weight); n != 4 || err != nil {
			t.Fatalf("no arc: %q", text)
		}
		x.Weight = read(t, r, weight)
		out = append(out, x)
	}
	return out
}

// blank returns an automaton of Zero weights without arcs.
func blank(r api.Ring, symbols, states int) api.Auto {
	a := api.Auto{Ring: r, Symbols: symbols, States: states}
	for range states {
		a.Initial = append(a.Initial, semiring.Zero(r))
		a.Final = append(a.Final, semiring.Zero(r))
	}
	return a
}

// sample returns an automaton with three states, three symbols and all weights of a ringCase.
func sample(t *testing.T, s ringCase) api.Auto {
	t.Helper()
	weights := readAll(t, s.ring, s.texts...)
	a := api.Auto{Ring: s.ring, Symbols: 3, States: 3}
	a.Initial = slices.Clone(weights[:3])
	a.Final = slices.Clone(weights[2:5])
	for i, w := range weights {
		a.Arcs = append(a.Arcs, api.Arc{From: i % 3, Label: i % 4, To: (i + 1) % 3, Weight: w})
	}
	return remade(a, 0)
}

// random returns an automaton with some equal arcs, in any order.
func random(t *testing.T, source *rand.Rand, s ringCase, symbols, states, size int) api.Auto {
	t.Helper()
	weight := func() api.Weight { return read(t, s.ring, s.texts[source.Intn(len(s.texts))]) }
	a := api.Auto{Ring: s.ring, Symbols: symbols, States: states}
	for range states {
		a.Initial = append(a.Initial, weight())
		a.Final = append(a.Final, weight())
	}
	for range size {
		a.Arcs = append(a.Arcs, api.Arc{From: source.Intn(states), Label: source.Intn(symbols + 1), To: source.Intn(states), Weight: weight()})
	}
	return a
}

// remade returns an automaton in new memory, with so much room behind the end of each slice, which is filled.
func remade(a api.Auto, room int) api.Auto {
	a.Ring.Parts = extended(a.Ring.Parts, 99, room)
	a.Initial = remadeWeights(a.Initial, room)
	a.Final = remadeWeights(a.Final, room)
	a.Arcs = extended(a.Arcs, api.Arc{From: -9, Label: -9, To: -9}, room)
	for i := range a.Arcs {
		a.Arcs[i].Weight = remadeWeight(a.Arcs[i].Weight, room)
	}
	return a
}

// remadeWeights does the same with weights.
func remadeWeights(weights []api.Weight, room int) []api.Weight {
	out := extended(weights, api.Weight{Cost: -9}, room)
	for i := range out {
		out[i] = remadeWeight(out[i], room)
	}
	return out
}

// remadeWeight does the same with a weight.
func remadeWeight(w api.Weight, room int) api.Weight {
	number := func(x api.Rat) api.Rat {
		return api.Rat{Neg: x.Neg, Num: extended(x.Num, 9, room), Den: extended(x.Den, 9, room)}
	}
	w.Q = number(w.Q)
	w.Poly = extended(w.Poly, api.Monomial{Exps: [api.MaxParams]int{9}}, room)
	for i := range w.Poly {
		w.Poly[i].Coef = number(w.Poly[i].Coef)
	}
	w.Parts = remadeWeights(w.Parts, room)
	return w
}

// extended returns a copy of a list with so many elements behind its length.
func extended[T any](list []T, behind T, room int) []T {
	out := slices.Clone(list)
	for range room {
		out = append(out, behind)
	}
	return out[:len(list)]
}
