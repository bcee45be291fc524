package trim_test

import (
	"math/rand"
	"slices"
	"testing"

	"weighted/api"
	"weighted/automaton"
	"weighted/rational"
	"weighted/samples"
	"weighted/semiring"
	"weighted/weigh"
	"weighted/words"
)

// checkConsequences checks what the chapter says follows: all states of the Trim are useful, it is its own Trim, and words keep their weights and their paths.
func checkConsequences(t *testing.T, a api.Auto) {
	t.Helper()
	b := mustTrim(t, a)
	if slices.Contains(mustUseful(t, b), false) {
		t.Errorf("%v: not all states of the Trim %v are useful", a, b)
	}
	if got := mustTrim(t, b); !samples.Same(got, b) {
		t.Errorf("%v: Trim of the Trim %v is %v", a, b, got)
	}
	if got, e := automaton.Normal(b); e != api.OK || !samples.Same(got, b) {
		t.Errorf("%v: the normal form of the Trim %v is %v, %v", a, b, got, e)
	}
	a, b = withoutEmptyLabels(a), withoutEmptyLabels(b)
	var word []int
	for len(word) <= 3 {
		v, e := weigh.Weight(a, word)
		w, f := weigh.Weight(b, word)
		if e != api.OK || f != api.OK || !semiring.Equal(v, w) {
			t.Errorf("%v: the word %v has the weight %v, %v, but %v, %v in the Trim", a, word, v, e, w, f)
		}
		_, m, e := weigh.Paths(a, word, 0)
		_, n, f := weigh.Paths(b, word, 0)
		if e != api.OK || f != api.OK || rational.Compare(m, n) != 0 {
			t.Errorf("%v: the word %v has %v paths, %v, but %v, %v in the Trim", a, word, m, e, n, f)
		}
		if word, e = words.Next(word, a.Symbols); e != api.OK {
			t.Fatalf("no next word: %v", e)
		}
	}
}

// withoutEmptyLabels returns the automaton with one more symbol in place of the empty label. If words keep their weights there, they keep them with empty labels too.
func withoutEmptyLabels(a api.Auto) api.Auto {
	a.Symbols++
	a.Arcs = slices.Clone(a.Arcs)
	for i, x := range a.Arcs {
		if x.Label == 0 {
			a.Arcs[i].Label = a.Symbols
		}
	}
	return a
}

func TestConsequences(t *testing.T) {
	source := rand.New(rand.NewSource(2))
	for _, s := range ringCases() {
		for range 25 {
			checkConsequences(t, random(t, source, s, 1+source.Intn(6), source.Intn(12)))
		}
	}
}

func TestUsefulStatesAlone(t *testing.T) {
	// The Trim of an automaton whose states are all useful is its normal form.
	for _, s := range ringCases() {
		text := "symbols a b;states 3;initial 0 w0;initial 2 w1;final 1 w2;final 2 w3;arc 2 b 1 w0;arc 0 a 1 w1;arc 1 - 2 w2;arc 2 - 2 w3;gone 2 a 0;arc 2 b 1 zero"
		for shift := range s.Others {
			a := samples.Model(t, s.Fill(text, shift))
			want, e := automaton.Normal(a)
			if e != api.OK || len(want.Arcs) != 4 {
				t.Fatalf("%s: the normal form is %v, %v", s.Line, want, e)
			}
			check(t, s.Line, a, marks("111"), want)
		}
	}
}

func TestRingAndSymbolsStay(t *testing.T) {
	for _, s := range ringCases() {
		for _, symbols := range []int{1, 5, api.MaxSymbols} {
			a := api.Auto{Ring: s.Ring(t), Symbols: symbols, States: 2}
			zero, one := s.Weight(t, s.Zero), s.Weight(t, s.One)
			a.Initial, a.Final = []api.Weight{zero, one}, []api.Weight{one, zero}
			check(t, s.Line, a, marks("00"), api.Auto{Ring: a.Ring, Symbols: symbols})
			a.Arcs = []api.Arc{{From: 1, Label: symbols, To: 0, Weight: one}}
			check(t, s.Line, a, marks("11"), a)
		}
	}
}

// chain returns the automaton with as many states as there may be, in which arcs lead from each state to the next one in an order of the states.
func chain(t *testing.T, s samples.Case, order []int) api.Auto {
	t.Helper()
	a := api.Auto{Ring: s.Ring(t), Symbols: 2, States: len(order)}
	zero, one := s.Weight(t, s.Zero), s.Weight(t, s.One)
	a.Initial, a.Final = slices.Repeat([]api.Weight{zero}, a.States), slices.Repeat([]api.Weight{zero}, a.States)
	a.Initial[order[0]], a.Final[order[a.States-1]] = one, one
	for i := range a.States - 1 {
		a.Arcs = append(a.Arcs, api.Arc{From: order[i], Label: i % 3, To: order[i+1], Weight: s.Weight(t, s.Others[i%len(s.Others)])})
	}
	return a
}

func TestChainsOfAllStatesThatThereMayBe(t *testing.T) {
	if api.MaxStates != 64 {
		t.Errorf("%d states", api.MaxStates)
	}
	mixed := rand.New(rand.NewSource(3)).Perm(api.MaxStates)
	upwards := slices.Sorted(slices.Values(mixed))
	downwards := slices.Clone(upwards)
	slices.Reverse(downwards)
	for _, s := range ringCases() {
		for _, order := range [][]int{mixed, upwards, downwards} {
			a := chain(t, s, order)
			checkExpected(t, s, a, api.MaxStates)
			// With one arc less, nothing leads from the start to the end.
			for _, i := range []int{0, 31, 62} {
				b := a
				b.Arcs = slices.Delete(slices.Clone(a.Arcs), i, i+1)
				checkExpected(t, s, b, 0)
			}
			// What is in front of a start in the middle is not useful, and neither is what is behind an end there.
			b := a
			b.Initial, b.Final = slices.Clone(a.Initial), slices.Clone(a.Final)
			b.Initial[order[0]], b.Initial[order[20]] = a.Initial[order[20]], a.Initial[order[0]]
			b.Final[order[63]], b.Final[order[40]] = a.Final[order[40]], a.Final[order[63]]
			checkExpected(t, s, b, 21)
		}
	}
}

// checkExpected checks the useful states, of which there are so many, and the Trim against their definitions.
func checkExpected(t *testing.T, s samples.Case, a api.Auto, states int) {
	t.Helper()
	useful, want := expected(a)
	if want.States != states {
		t.Errorf("%s: %d useful states, not %d", s.Line, want.States, states)
	}
	check(t, s.Line, a, useful, want)
}

func TestAllArcsThatThereMayBe(t *testing.T) {
	// From each of the first 32 states an arc leads to each state, so that the first 32 are useful, and of the others those that are final.
	for _, s := range ringCases() {
		a := chain(t, s, slices.Concat([]int{5}, make([]int, 62), []int{40}))
		a.Arcs = nil
		for i := range api.MaxArcs {
			a.Arcs = append(a.Arcs, api.Arc{From: i / 64, Label: i % 3, To: i % 64, Weight: s.Weight(t, s.Others[i%len(s.Others)])})
		}
		checkExpected(t, s, a, 33)
		a.Final[63] = a.Final[40]
		checkExpected(t, s, a, 34)
		a.Initial[5], a.Initial[63] = a.Initial[0], a.Initial[5]
		checkExpected(t, s, a, 1)
	}
}
