package trim_test

import (
	"fmt"
	"math/rand"
	"slices"
	"testing"

	"weighted/api"
	"weighted/samples"
	"weighted/semiring"
)

// shape is a model in any ring, as fill reads it, with its useful states and its Trim.
type shape struct {
	name, text, useful, trim string
}

// nothing is the Trim of a model without useful states.
const nothing = "symbols a b;states 0"

// ends returns the first lines of a model with these states, the first one initial and the last one final.
func ends(states int) string {
	return fmt.Sprintf("symbols a b;states %d;initial 0 one;final %d one;", states, states-1)
}

// plainShapes returns models of at most two states, or without arcs.
func plainShapes() []shape {
	return []shape{
		{"no states", "symbols a b;states 0", "", nothing},
		{"no arcs", ends(2) + "final 0 zero", "00", nothing},
		{"no arcs, initial and final", "symbols a b;states 3;initial 1 one;final 1 w0", "010", "symbols a b;states 1;initial 0 one;final 0 w0"},
		{"no arcs, some initial and final", "symbols a b;states 4;initial 0 w0;initial 2 w1;initial 3 w2;final 1 w3;final 2 w4;final 3 w5", "0011",
			"symbols a b;states 2;initial 0 w1;initial 1 w2;final 0 w4;final 1 w5"},
		{"neither initial nor final", "symbols a b;states 2;arc 0 a 1 w0;arc 1 a 0 w1", "00", nothing},
		{"no initial weights", "symbols a b;states 2;final 0 w0;final 1 w1;initial 1 zero;arc 0 a 1 w0;arc 1 a 0 w1", "00", nothing},
		{"no final weights", "symbols a b;states 2;initial 0 w0;initial 1 w1;final 1 zero;arc 0 a 1 w0;arc 1 a 0 w1", "00", nothing},
		{"the final state is not reached", ends(2) + "arc 0 a 0 w0;arc 1 a 0 w1", "00", nothing},
		{"an arc", ends(2) + "arc 0 b 1 w0", "11", ends(2) + "arc 0 b 1 w0"},
		{"an arc with the empty label", ends(2) + "arc 0 - 1 w0", "11", ends(2) + "arc 0 - 1 w0"},
		{"an arc back", ends(2) + "arc 1 a 0 w0", "00", nothing},
		{"an empty label back", ends(2) + "arc 1 - 0 w0", "00", nothing},
		{"a loop", ends(1) + "arc 0 - 0 w0;arc 0 a 0 w1;arc 0 b 0 w2", "1", ends(1) + "arc 0 - 0 w0;arc 0 a 0 w1;arc 0 b 0 w2"},
		{"a loop reaches nothing", ends(2) + "arc 0 a 0 w0;arc 1 a 1 w1;arc 0 - 0 w2", "00", nothing},
		{"loops beside an arc", ends(2) + "arc 0 a 0 w0;arc 0 b 1 w1;arc 1 - 1 w2", "11", ends(2) + "arc 0 a 0 w0;arc 0 b 1 w1;arc 1 - 1 w2"},
	}
}

// largerShapes returns models of several states, some of which may lie between others that stay.
func largerShapes() []shape {
	return []shape{
		{"all labels", ends(4) + "arc 0 - 1 w0;arc 1 a 2 w1;arc 2 b 3 w2", "1111", ends(4) + "arc 0 - 1 w0;arc 1 a 2 w1;arc 2 b 3 w2"},
		{"reached, but leads nowhere", ends(3) + "arc 0 a 2 w0;arc 0 a 1 w1", "101", ends(2) + "arc 0 a 1 w0"},
		{"reached, but leads to itself", ends(3) + "arc 0 a 2 w0;arc 0 b 1 w1;arc 1 a 1 w2", "101", ends(2) + "arc 0 a 1 w0"},
		{"leads to the end, but is not reached", ends(3) + "arc 0 a 2 w0;arc 1 a 2 w1", "101", ends(2) + "arc 0 a 1 w0"},
		{"initial, but leads nowhere", ends(3) + "initial 1 one;arc 0 a 2 w0", "101", ends(2) + "arc 0 a 1 w0"},
		{"final, but is not reached", ends(3) + "final 1 one;arc 0 a 2 w0", "101", ends(2) + "arc 0 a 1 w0"},
		{"initial in the middle", "symbols a b;states 3;initial 1 one;final 2 one;arc 0 a 1 w0;arc 1 a 2 w1", "011", ends(2) + "arc 0 a 1 w1"},
		{"final in the middle", "symbols a b;states 3;initial 0 one;final 1 one;arc 0 a 1 w0;arc 1 a 2 w1", "110", ends(2) + "arc 0 a 1 w0"},
		{"a cycle to the side", ends(4) + "arc 0 a 3 w0;arc 0 a 1 w1;arc 1 a 2 w2;arc 2 b 1 w3", "1001", ends(2) + "arc 0 a 1 w0"},
		{"a cycle through the end", ends(3) + "arc 0 a 2 w0;arc 2 a 1 w1;arc 1 b 2 w2", "111", ends(3) + "arc 0 a 2 w0;arc 1 b 2 w2;arc 2 a 1 w1"},
		{"a cycle through the start", ends(3) + "arc 0 a 1 w0;arc 1 b 0 w1;arc 0 b 2 w2", "111", ends(3) + "arc 0 a 1 w0;arc 0 b 2 w2;arc 1 b 0 w1"},
		{"two parts", "symbols a b;states 4;initial 0 one;final 1 one;arc 0 a 1 w0;arc 2 a 3 w1;arc 3 b 2 w2", "1100", ends(2) + "arc 0 a 1 w0"},
		{"backwards through the numbers", "symbols a b;states 4;initial 3 one;final 0 one;arc 3 a 2 w0;arc 2 a 1 w1;arc 1 a 0 w2", "1111",
			"symbols a b;states 4;initial 3 one;final 0 one;arc 1 a 0 w2;arc 2 a 1 w1;arc 3 a 2 w0"},
		{"two in the middle",
			"symbols a b;states 6;initial 0 w0;initial 3 w1;final 2 w2;final 5 w3;arc 0 a 1 w0;arc 0 b 2 w1;arc 4 a 3 w2;arc 3 b 5 w3;arc 2 - 3 w4;arc 5 a 0 w5;arc 2 b 1 w6", "101101",
			"symbols a b;states 4;initial 0 w0;initial 2 w1;final 1 w2;final 3 w3;arc 0 b 1 w1;arc 1 - 2 w4;arc 2 b 3 w3;arc 3 a 0 w5"},
	}
}

// vanishedShapes returns models that some arcs would change if the normal form did not leave them out.
func vanishedShapes() []shape {
	return []shape{
		{"the weight Zero", ends(2) + "arc 0 a 1 zero", "00", nothing},
		{"the weight Zero twice", ends(2) + "arc 0 a 1 zero;arc 0 a 1 zero;arc 0 - 1 zero", "00", nothing},
		{"the sum Zero", ends(2) + "gone 0 a 1", "00", nothing},
		{"the sum Zero of empty labels", ends(2) + "gone 0 - 1;gone 0 b 1", "00", nothing},
		{"the sum Zero and an arc", ends(2) + "gone 0 a 1;arc 0 a 1 w0", "11", ends(2) + "arc 0 a 1 w0"},
		{"the sum Zero beside an arc", ends(2) + "gone 0 a 1;arc 0 b 1 w0", "11", ends(2) + "arc 0 b 1 w0"},
		{"reached by the sum Zero", ends(3) + "gone 0 a 1;arc 0 b 2 w0;arc 1 b 2 w1", "101", ends(2) + "arc 0 b 1 w0"},
		{"leads on with the sum Zero", ends(3) + "arc 0 b 2 w0;arc 0 b 1 w1;gone 1 a 2", "101", ends(2) + "arc 0 b 1 w0"},
		{"reached by Zero", ends(3) + "arc 0 a 1 zero;arc 0 b 2 w0;arc 1 b 2 w1", "101", ends(2) + "arc 0 b 1 w0"},
		{"leads on with Zero", ends(3) + "arc 0 b 2 w0;arc 0 b 1 w1;arc 1 a 2 zero", "101", ends(2) + "arc 0 b 1 w0"},
		{"initial with Zero", ends(3) + "initial 1 zero;arc 0 b 2 w0;arc 1 b 2 w1", "101", ends(2) + "arc 0 b 1 w0"},
		{"final with Zero", ends(3) + "final 1 zero;arc 0 b 2 w0;arc 0 a 1 w1", "101", ends(2) + "arc 0 b 1 w0"},
	}
}

// checkShape checks a shape with the weights of a ring.
func checkShape(t *testing.T, s samples.Case, x shape) {
	t.Helper()
	for shift := range s.Others {
		check(t, s.Line+": "+x.name, samples.Model(t, s.Fill(x.text, shift)), marks(x.useful), samples.Model(t, s.Fill(x.trim, shift)))
	}
}

func TestShapes(t *testing.T) {
	for _, s := range ringCases() {
		for _, x := range slices.Concat(plainShapes(), largerShapes(), vanishedShapes()) {
			checkShape(t, s, x)
		}
	}
}

func TestExample(t *testing.T) {
	a := samples.Model(t, "ring tropical;symbols a b;states 3;initial 0 0;final 2 7;arc 0 a 1 3;arc 1 b 0 1;arc 2 a 2 0;arc 2 b 1 5;arc 1 a 2 inf")
	check(t, "example", a, marks("000"), api.Auto{Ring: a.Ring, Symbols: 2})
}

func TestInitialAndFinalWeights(t *testing.T) {
	// Each weight other than Zero makes a state initial or final, also one that is Zero in one part alone, and that its product with the others is Zero does not matter.
	for _, s := range ringCases() {
		for _, v := range s.Others {
			for _, w := range s.Others {
				single := samples.Model(t, s.Line+";symbols a;states 1;initial 0 "+v+";final 0 "+w)
				check(t, s.Line, single, marks("1"), single)
				for _, x := range s.Others {
					triple := samples.Model(t, s.Line+";symbols a;states 3;initial 0 "+v+";final 1 "+w+";initial 2 "+s.Zero+";arc 0 a 1 "+x)
					double := samples.Model(t, s.Line+";symbols a;states 2;initial 0 "+v+";final 1 "+w+";arc 0 a 1 "+x)
					check(t, s.Line, triple, marks("110"), double)
				}
			}
		}
	}
}

func TestProductsAndSumsThatAreZero(t *testing.T) {
	// The words have the weight Zero, but arcs lead there.
	for _, text := range []string{
		"ring sets;symbols a;states 3;initial 0 000000000000000f;final 2 000000000000000f;arc 0 a 1 00000000000000f0;arc 1 a 2 000000000000000f",
		"ring polynomial;symbols a;states 3;initial 0 1;final 2 1;arc 0 a 1 a^3;arc 1 a 2 a^3",
		"ring tropical;symbols a;states 3;initial 0 0;final 2 1;arc 0 a 1 1099511627776;arc 1 a 2 1099511627776",
		"ring product rational viterbi;symbols a;states 3;initial 0 1|0;final 2 1|1;arc 0 a 1 1|1;arc 1 a 2 0|1",
		"ring rational;symbols a;states 3;initial 0 1;initial 1 -1;final 2 1;arc 0 a 2 1/2;arc 1 a 2 1/2",
		"ring rational;symbols a b;states 3;initial 0 1;final 2 1;arc 0 a 1 1/2;arc 0 b 1 -1/2;arc 1 - 2 2;arc 1 a 2 -2",
	} {
		a := samples.Model(t, text)
		check(t, text, a, marks("111"), a)
	}
}

func TestPartsThatVanish(t *testing.T) {
	// Only together do the parts of a tuple decide whether an arc is there.
	for _, x := range []struct {
		arcs, useful, trim string
	}{
		{"arc 0 a 1 1|inf;arc 0 a 1 -1|inf", "00", "states 0"},
		{"arc 0 a 1 1|3;arc 0 a 1 -1|inf", "11", "states 2;initial 0 1|inf;final 1 0|0;arc 0 a 1 0|3"},
		{"arc 0 a 1 1|inf;arc 0 a 1 -1|inf;arc 0 a 1 1/2|inf", "11", "states 2;initial 0 1|inf;final 1 0|0;arc 0 a 1 1/2|inf"},
		{"arc 0 a 1 0|inf", "00", "states 0"},
		{"arc 0 a 1 0|0", "11", "states 2;initial 0 1|inf;final 1 0|0;arc 0 a 1 0|0"},
	} {
		const head = "ring product rational tropical;symbols a;"
		check(t, x.arcs, samples.Model(t, head+"states 2;initial 0 1|inf;final 1 0|0;"+x.arcs), marks(x.useful), samples.Model(t, head+x.trim))
	}
}

// normalArcs returns the arcs of the normal form, as the definition describes them.
func normalArcs(a api.Auto) []api.Arc {
	var out []api.Arc
	for _, x := range a.Arcs {
		at := slices.IndexFunc(out, func(y api.Arc) bool { return compareArcs(x, y) == 0 })
		if at < 0 {
			out = append(out, x)
		} else {
			out[at].Weight = semiring.Plus(a.Ring, out[at].Weight, x.Weight)
		}
	}
	out = slices.DeleteFunc(out, func(x api.Arc) bool { return semiring.Equal(x.Weight, semiring.Zero(a.Ring)) })
	slices.SortFunc(out, compareArcs)
	return out
}

// compareArcs compares arcs in the order of the normal form.
func compareArcs(x, y api.Arc) int {
	return slices.Compare([]int{x.From, x.Label, x.To}, []int{y.From, y.Label, y.To})
}

// joined returns from which states arcs lead to which ones; from each state to itself without any.
func joined(states int, arcs []api.Arc) [][]bool {
	out := make([][]bool, states)
	for i := range out {
		out[i] = make([]bool, states)
		out[i][i] = true
	}
	for _, x := range arcs {
		out[x.From][x.To] = true
	}
	for k := range states {
		for i := range states {
			for j := range states {
				out[i][j] = out[i][j] || out[i][k] && out[k][j]
			}
		}
	}
	return out
}

// expected returns the useful states and the Trim, state by state as the chapter defines them.
func expected(a api.Auto) ([]bool, api.Auto) {
	arcs := normalArcs(a)
	leads := joined(a.States, arcs)
	isOther := func(w api.Weight) bool { return !semiring.Equal(w, semiring.Zero(a.Ring)) }
	useful := make([]bool, a.States)
	want := api.Auto{Ring: a.Ring, Symbols: a.Symbols}
	to := map[int]int{}
	for q := range a.States {
		in, out := false, false
		for p := range a.States {
			in = in || isOther(a.Initial[p]) && leads[p][q]
			out = out || leads[q][p] && isOther(a.Final[p])
		}
		if !in || !out {
			continue
		}
		useful[q] = true
		to[q] = want.States
		want.States++
		want.Initial, want.Final = append(want.Initial, a.Initial[q]), append(want.Final, a.Final[q])
	}
	for _, x := range arcs {
		if useful[x.From] && useful[x.To] {
			want.Arcs = append(want.Arcs, api.Arc{From: to[x.From], Label: x.Label, To: to[x.To], Weight: x.Weight})
		}
	}
	return useful, want
}

func TestRandomAutomata(t *testing.T) {
	source := rand.New(rand.NewSource(1))
	for _, s := range ringCases() {
		seen := map[string]int{}
		for range 300 {
			a := random(t, source, s, 1+source.Intn(6), source.Intn(20))
			useful, want := expected(a)
			check(t, s.Line, a, useful, want)
			switch want.States {
			case 0:
				seen["none"]++
			case a.States:
				seen["all"]++
			default:
				seen["some"]++
			}
		}
		if min(seen["none"], seen["some"], seen["all"]) < 30 {
			t.Errorf("%s: the automata are too much alike: %v", s.Line, seen)
		}
	}
}
