package trim_test

import (
	"math"
	"slices"
	"testing"

	"weighted/api"
	"weighted/trim"
)

// checkNone checks that both functions answer ErrForm, and nothing else.
func checkNone(t *testing.T, what string, a api.Auto) {
	t.Helper()
	if got, e := trim.Useful(a); e != api.ErrForm || len(got) > 0 {
		t.Errorf("%s: Useful is %v, %v", what, got, e)
	}
	if got, e := trim.Trim(a); e != api.ErrForm || !sameFields(got, api.Auto{}) {
		t.Errorf("%s: Trim is %v, %v", what, got, e)
	}
}

func TestAutomataThatAreNotValid(t *testing.T) {
	checkNone(t, "zero value", api.Auto{})
	wrong := api.Weight{Inf: true, Cost: 1}
	for _, s := range ringCases() {
		refuse := func(what string, change func(a *api.Auto)) {
			t.Helper()
			a := model(t, s.fill("symbols a b;states 3;initial 0 w0;final 1 w1;arc 0 a 1 w2;arc 1 b 1 w3", 0))
			check(t, s.line, a, marks("110"), mustTrim(t, a))
			change(&a)
			checkNone(t, s.line+": "+what, a)
		}
		refuse("no ring", func(a *api.Auto) { a.Ring = api.Ring{} })
		refuse("an unknown ring", func(a *api.Auto) { a.Ring.Kind = 7 })
		refuse("a tuple of one part", func(a *api.Auto) { a.Ring = api.Ring{Kind: api.Product, Parts: []int{api.Rational}} })
		refuse("parts too many", func(a *api.Auto) { a.Ring.Parts = append(slices.Clone(a.Ring.Parts), 1, 1, 1, 1) })
		refuse("no symbols", func(a *api.Auto) { *a = api.Auto{Ring: a.Ring} })
		refuse("too many symbols", func(a *api.Auto) { a.Symbols = api.MaxSymbols + 1 })
		refuse("symbols below 0", func(a *api.Auto) { *a = api.Auto{Ring: a.Ring, Symbols: -1} })
		refuse("states below 0", func(a *api.Auto) { *a = api.Auto{Ring: a.Ring, Symbols: 1, States: -1} })
		refuse("states far below 0", func(a *api.Auto) { a.States = math.MinInt })
		refuse("more states than weights", func(a *api.Auto) { a.States = 4 })
		refuse("less states than weights", func(a *api.Auto) { a.States = 2 })
		refuse("too many states", func(a *api.Auto) {
			a.States = api.MaxStates + 1
			a.Initial = slices.Repeat(a.Initial[:1], a.States)
			a.Final = slices.Repeat(a.Final[:1], a.States)
		})
		refuse("no Initial", func(a *api.Auto) { a.Initial = nil })
		refuse("no Final", func(a *api.Auto) { a.Final = nil })
		refuse("Initial too long", func(a *api.Auto) { a.Initial = append(a.Initial, a.Initial[0]) })
		refuse("Final too short", func(a *api.Auto) { a.Final = a.Final[:2] })
		refuse("an Initial of no weight", func(a *api.Auto) { a.Initial[2] = wrong })
		refuse("a Final of no weight", func(a *api.Auto) { a.Final[2] = wrong })
		refuse("an arc of no weight", func(a *api.Auto) { a.Arcs[1].Weight = wrong })
		refuse("an arc between useless states of no weight", func(a *api.Auto) { a.Arcs = append(a.Arcs, api.Arc{From: 2, To: 2, Weight: wrong}) })
		refuse("an arc from no state", func(a *api.Auto) { a.Arcs[1].From = 3 })
		refuse("an arc to no state", func(a *api.Auto) { a.Arcs[1].To = 3 })
		refuse("an arc from below 0", func(a *api.Auto) { a.Arcs[0].From = -1 })
		refuse("an arc to below 0", func(a *api.Auto) { a.Arcs[0].To = math.MinInt })
		refuse("a label that is no symbol", func(a *api.Auto) { a.Arcs[0].Label = 3 })
		refuse("a label below 0", func(a *api.Auto) { a.Arcs[0].Label = -1 })
		refuse("too many arcs", func(a *api.Auto) { a.Arcs = slices.Repeat(a.Arcs[:1], api.MaxArcs+1) })
		refuse("an arc without states", func(a *api.Auto) { a.States, a.Initial, a.Final = 0, nil, nil })
	}
}

func TestWeightsThatAreNotValid(t *testing.T) {
	// None of these counts as Zero: the model is not valid.
	two, half := []uint32{2}, api.Rat{Num: []uint32{1}, Den: []uint32{2}}
	for _, x := range []struct {
		line    string
		weights []api.Weight
	}{
		{"ring rational", []api.Weight{{Q: api.Rat{Num: two, Den: []uint32{4}}}, {Q: api.Rat{Neg: true}}, {Q: api.Rat{Num: []uint32{1, 0}}}, {Q: half, Set: 1}}},
		{"ring tropical", []api.Weight{{Cost: -1}, {Cost: api.MaxCost + 1}, {Inf: true, Cost: 1}, {Q: half}}},
		{"ring viterbi", []api.Weight{{Q: api.Rat{Num: two}}, {Q: api.Rat{Neg: true, Num: two}}, {Cost: 1}}},
		{"ring sets", []api.Weight{{Set: 1, Inf: true}, {Q: half}}},
		{"ring polynomial", []api.Weight{{Poly: []api.Monomial{{}}}, {Poly: []api.Monomial{{Exps: [api.MaxParams]int{6}, Coef: half}}}}},
		{"ring product rational sets", []api.Weight{{}, {Parts: []api.Weight{{Q: half}}}, {Parts: []api.Weight{{Q: half}, {Q: half}}}, {Cost: 1, Parts: []api.Weight{{}, {}}}}},
	} {
		for _, w := range x.weights {
			a := model(t, x.line+";symbols a;states 2")
			for _, b := range []api.Auto{
				{Initial: []api.Weight{a.Initial[0], w}, Final: a.Final},
				{Initial: a.Initial, Final: []api.Weight{w, a.Final[1]}},
				{Initial: a.Initial, Final: a.Final, Arcs: []api.Arc{{From: 0, Label: 1, To: 1, Weight: w}}},
			} {
				b.Ring, b.Symbols, b.States = a.Ring, a.Symbols, a.States
				checkNone(t, x.line, b)
			}
		}
	}
}
