package automaton

import (
	"fmt"
	"math"
	"slices"
	"testing"

	"weighted/api"
	"weighted/semiring"
)

// outside are numbers that are neither a state nor a label nor a symbol of any automaton.
func outside() []int {
	return []int{-1, -2, api.MaxStates + 1, 1 << 32, 1<<32 + 1, math.MinInt, math.MinInt + 1, math.MaxInt}
}

// changed returns an automaton in new memory in which one thing is different.
func changed(a api.Auto, change func(a *api.Auto)) api.Auto {
	a = remade(a, 0)
	change(&a)
	return a
}

// invalid returns automata that are not valid, each for one reason and with its name.
func invalid(t *testing.T) map[string]api.Auto {
	t.Helper()
	out := map[string]api.Auto{"zero value": {}}
	for _, s := range ringCases() {
		a := sample(t, s)
		name := func(what string, numbers ...int) string { return fmt.Sprintf("%v: %s %v", s.ring, what, numbers) }
		for i, r := range wrongRings() {
			out[name("ring", i)] = changed(a, func(a *api.Auto) { a.Ring = r })
		}
		for i, w := range s.wrong {
			for k := range a.States {
				out[name("Initial", k, i)] = changed(a, func(a *api.Auto) { a.Initial[k] = w })
				out[name("Final", k, i)] = changed(a, func(a *api.Auto) { a.Final[k] = w })
			}
			for k := range a.Arcs {
				out[name("weight of an arc", k, i)] = changed(a, func(a *api.Auto) { a.Arcs[k].Weight = w })
			}
		}
		for _, n := range append(outside(), 0) {
			out[name("Symbols", n)] = changed(a, func(a *api.Auto) { a.Symbols = n })
		}
		for _, n := range append(outside(), 0, 2, 4) {
			out[name("States", n)] = changed(a, func(a *api.Auto) { a.States = n })
		}
		for _, n := range append(outside(), 3) {
			for k := range a.Arcs {
				out[name("From", k, n)] = changed(a, func(a *api.Auto) { a.Arcs[k].From = n })
				out[name("To", k, n)] = changed(a, func(a *api.Auto) { a.Arcs[k].To = n })
			}
		}
		for _, n := range append(outside(), 4) {
			for k := range a.Arcs {
				out[name("Label", k, n)] = changed(a, func(a *api.Auto) { a.Arcs[k].Label = n })
			}
		}
		zero := semiring.Zero(s.ring)
		out[name("Initial longer", 4)] = changed(a, func(a *api.Auto) { a.Initial = append(a.Initial, zero) })
		out[name("Final longer", 4)] = changed(a, func(a *api.Auto) { a.Final = append(a.Final, zero) })
		for n := range a.States {
			out[name("Initial shorter", n)] = changed(a, func(a *api.Auto) { a.Initial = a.Initial[:n] })
			out[name("Final shorter", n)] = changed(a, func(a *api.Auto) { a.Final = a.Final[:n] })
		}
	}
	return out
}

// invalidByLimits returns automata that would be valid with other limits.
func invalidByLimits() map[string]api.Auto {
	out := map[string]api.Auto{}
	for _, s := range ringCases() {
		name := func(what string) string { return fmt.Sprintf("%v: %s", s.ring, what) }
		for _, states := range []int{0, 1} {
			out[name(fmt.Sprint("no symbols, states: ", states))] = blank(s.ring, 0, states)
			out[name(fmt.Sprint("too many symbols, states: ", states))] = blank(s.ring, api.MaxSymbols+1, states)
		}
		out[name("too many states")] = blank(s.ring, 2, api.MaxStates+1)
		negative := blank(s.ring, 2, 0)
		negative.States = -1
		out[name("states below 0")] = negative
		arcs := blank(s.ring, 2, 1)
		arcs.Arcs = slices.Repeat([]api.Arc{{Label: 1, Weight: semiring.One(s.ring)}}, api.MaxArcs+1)
		out[name("too many arcs")] = arcs
		stray := blank(s.ring, 2, 0)
		stray.Arcs = []api.Arc{{Label: 1, Weight: semiring.One(s.ring)}}
		out[name("an arc without states")] = stray
	}
	for _, r := range wrongRings() {
		for symbols := range 3 {
			out[fmt.Sprintf("%v without states, %d symbols", r, symbols)] = api.Auto{Ring: r, Symbols: symbols}
		}
	}
	return out
}

func TestLimits(t *testing.T) {
	if api.MaxStates != 64 || api.MaxArcs != 2048 || api.MaxSymbols != 32 {
		t.Fatalf("%d states, %d arcs, %d symbols", api.MaxStates, api.MaxArcs, api.MaxSymbols)
	}
}

func TestRingCases(t *testing.T) {
	for _, s := range ringCases() {
		weights := readAll(t, s.ring, s.texts...)
		if !semiring.Equal(weights[0], semiring.Zero(s.ring)) || !semiring.Equal(weights[1], semiring.One(s.ring)) {
			t.Errorf("%v: Zero and One do not come first", s.ring)
		}
		for i, w := range s.wrong {
			if semiring.Check(s.ring, w) {
				t.Errorf("%v: weight %d is one", s.ring, i)
			}
		}
	}
}

func TestValid(t *testing.T) {
	for _, s := range ringCases() {
		a := sample(t, s)
		if !Valid(a) {
			t.Errorf("%v: %v is not valid", s.ring, a)
		}
		for symbols := 3; symbols <= api.MaxSymbols; symbols++ {
			if !Valid(changed(a, func(a *api.Auto) { a.Symbols = symbols })) {
				t.Errorf("%v: not valid with %d symbols", s.ring, symbols)
			}
		}
		for states := range api.MaxStates + 1 {
			for _, symbols := range []int{1, 2, api.MaxSymbols} {
				if !Valid(blank(s.ring, symbols, states)) {
					t.Errorf("%v: not valid with %d symbols, %d states", s.ring, symbols, states)
				}
			}
		}
		if !Valid(api.Auto{Ring: s.ring, Symbols: 1, Initial: []api.Weight{}, Final: []api.Weight{}, Arcs: []api.Arc{}}) {
			t.Errorf("%v: not valid with empty slices", s.ring)
		}
	}
}

func TestValidAtTheEndsOfRanges(t *testing.T) {
	for _, s := range ringCases() {
		weights := readAll(t, s.ring, s.texts...)
		for _, states := range []int{1, 2, 3, api.MaxStates - 1, api.MaxStates} {
			for _, symbols := range []int{1, 2, api.MaxSymbols} {
				a := blank(s.ring, symbols, states)
				for i, ends := range [][3]int{{0, 0, 0}, {0, symbols, states - 1}, {states - 1, 0, 0}, {states - 1, symbols, states - 1}, {states / 2, 1, states / 2}} {
					a.Arcs = append(a.Arcs, api.Arc{From: ends[0], Label: ends[1], To: ends[2], Weight: weights[i%len(weights)]})
				}
				if !Valid(a) {
					t.Errorf("%v: not valid: %v", s.ring, a.Arcs)
				}
				for i := range a.Arcs {
					for _, change := range []func(x *api.Arc){
						func(x *api.Arc) { x.From = states },
						func(x *api.Arc) { x.To = states },
						func(x *api.Arc) { x.Label = symbols + 1 },
						func(x *api.Arc) { x.From = -1 },
						func(x *api.Arc) { x.To = -1 },
						func(x *api.Arc) { x.Label = -1 },
					} {
						b := changed(a, func(a *api.Auto) { change(&a.Arcs[i]) })
						if Valid(b) {
							t.Errorf("%v: valid with %d symbols and %d states: %v", s.ring, symbols, states, b.Arcs[i])
						}
					}
				}
			}
		}
	}
}

func TestValidWithManyArcs(t *testing.T) {
	for _, s := range ringCases() {
		a := blank(s.ring, 1, 2)
		for _, n := range []int{0, 1, 2, api.MaxArcs - 1, api.MaxArcs, api.MaxArcs + 1, api.MaxArcs + 2, 3 * api.MaxArcs} {
			a.Arcs = slices.Repeat([]api.Arc{{From: 1, Label: 1, Weight: semiring.One(s.ring)}}, n)
			if Valid(a) != (n <= api.MaxArcs) {
				t.Errorf("%v: %d arcs", s.ring, n)
			}
		}
	}
}

func TestNotValid(t *testing.T) {
	for name, a := range invalid(t) {
		if Valid(a) {
			t.Errorf("%s: valid", name)
		}
	}
	for name, a := range invalidByLimits() {
		if Valid(a) {
			t.Errorf("%s: valid", name)
		}
	}
}

func TestWeightsOfOtherRingsAreNotValid(t *testing.T) {
	for _, s := range ringCases() {
		for _, other := range ringCases() {
			for _, w := range readAll(t, other.ring, other.texts...) {
				a := blank(s.ring, 1, 1)
				a.Arcs = []api.Arc{{Label: 1, Weight: w}}
				if Valid(a) != semiring.Check(s.ring, w) {
					t.Errorf("%v: the weight %v", s.ring, w)
				}
			}
		}
	}
}
