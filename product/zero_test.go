package product_test

import (
	"strings"
	"testing"

	"weighted/api"
	"weighted/samples"
	"weighted/semiring"
)

// vanishing is a ring with its One, two weights that are not Zero, but whose product is, and another one whose product with each of them is not.
type vanishing struct{ ring, one, first, second, other string }

// vanishings returns such rings.
func vanishings() []vanishing {
	return []vanishing{
		{"tropical", "0", "1099511627776", "1", "0"},
		{"tropical", "0", "549755813888", "549755813889", "549755813887"},
		{"sets", "ffffffffffffffff", "00000000000000f0", "000000000000000f", "0000000000000ff8"},
		{"polynomial", "1", "a^3", "b^3", "a^2-b*c"},
		{"polynomial", "1", "a^5+b^5", "c", "c-2/3"},
		{"product rational tropical", "1|0", "0|4", "-1/2|inf", "5|7"},
		{"product rational tropical", "1|0", "0|1099511627776", "-1/2|1", "5|0"},
		{"product rational rational", "1|1", "0|3", "-1/2|0", "1/3|-1"},
		{"product viterbi sets polynomial", "1|ffffffffffffffff|1", "0|00000000000000f0|a^2*b", "1/2|000000000000000f|c^3", "1|00000000000000ff|1"},
		{"product viterbi sets polynomial", "1|ffffffffffffffff|1", "1|0000000000000000|a^2*b", "0|ffffffffffffffff|c^3", "1/9|00000000000000ff|b^2"},
	}
}

// fill returns the text of a model in which one, v, w and x stand for One, the two weights and the other one.
func (x vanishing) fill(template string) string {
	lines := []string{"ring " + x.ring, "symbols a b"}
	for _, line := range strings.Split(template, ";") {
		at := strings.LastIndex(line, " ") + 1
		switch line[at:] {
		case "one":
			line = line[:at] + x.one
		case "v":
			line = line[:at] + x.first
		case "w":
			line = line[:at] + x.second
		case "x":
			line = line[:at] + x.other
		}
		lines = append(lines, line)
	}
	return strings.Join(lines, ";")
}

// factorsThatVanish returns templates of pairs of models with the number of states of their product where that of v and w is Zero, and the number with x in place of w.
func factorsThatVanish() []struct {
	name, a, b   string
	states, with int
} {
	const ends = "states 2;initial 0 one;final 1 one;"
	const three = "states 3;initial 0 one;final 2 one;"
	return []struct {
		name, a, b   string
		states, with int
	}{
		{"an Initial", "states 1;initial 0 v;final 0 one;arc 0 a 0 one", "states 1;initial 0 w;final 0 one;arc 0 a 0 one", 0, 1},
		{"a Final", "states 1;initial 0 one;final 0 v;arc 0 a 0 one", "states 1;initial 0 one;final 0 w;arc 0 a 0 one", 0, 1},
		{"an arc", ends + "arc 0 a 1 v", ends + "arc 0 a 1 w", 0, 2},
		{"a loop", ends + "arc 0 a 1 one;arc 0 b 0 v", ends + "arc 0 a 1 one;arc 0 b 0 w", 2, 2},
		{"one of two arcs", ends + "arc 0 a 1 v;arc 0 b 1 one", ends + "arc 0 a 1 w;arc 0 b 1 x", 2, 2},
		{"the first of two arcs", three + "arc 0 a 1 v;arc 1 b 2 one", three + "arc 0 a 1 w;arc 1 b 2 one", 0, 3},
		{"the last of two arcs", three + "arc 0 a 1 one;arc 1 b 2 v", three + "arc 0 a 1 one;arc 1 b 2 w", 0, 3},
		{"a way beside another", three + "arc 0 a 1 v;arc 1 b 2 one;arc 0 b 2 one", three + "arc 0 a 1 w;arc 1 b 2 one;arc 0 b 2 x", 2, 3},
		{"a way in", "states 3;initial 0 v;initial 1 one;final 2 one;arc 0 a 2 one;arc 1 b 2 one", "states 3;initial 0 w;initial 1 one;final 2 one;arc 0 a 2 one;arc 1 b 2 one", 2, 3},
		{"a way out", "states 3;initial 0 one;final 1 v;final 2 one;arc 0 a 1 one;arc 0 b 2 one", "states 3;initial 0 one;final 1 w;final 2 one;arc 0 a 1 one;arc 0 b 2 one", 2, 3},
		{"an arc in front of a cycle", "states 4;initial 0 one;final 2 one;arc 0 a 2 one;arc 0 b 1 v;arc 1 a 3 one;arc 3 b 1 one;arc 3 a 2 one", "states 4;initial 0 one;final 2 one;arc 0 a 2 one;arc 0 b 1 w;arc 1 a 3 one;arc 3 b 1 one;arc 3 a 2 one", 2, 4},
		{"an arc behind a cycle", "states 4;initial 0 one;final 2 one;arc 0 a 2 one;arc 0 b 1 one;arc 1 a 3 one;arc 3 b 1 one;arc 3 a 2 v", "states 4;initial 0 one;final 2 one;arc 0 a 2 one;arc 0 b 1 one;arc 1 a 3 one;arc 3 b 1 one;arc 3 a 2 w", 2, 4},
	}
}

func TestProductsOfWeightsThatAreZero(t *testing.T) {
	for _, x := range vanishings() {
		for _, f := range factorsThatVanish() {
			what := x.ring + ": " + f.name
			a, b := samples.Model(t, x.fill(f.a)), samples.Model(t, x.fill(f.b))
			checkStates(t, what, a, b, f.states)
			checkStates(t, what+", exchanged", b, a, f.states)
			// With another weight in place of one of the two, nothing falls away.
			x.second, x.other = x.other, x.second
			checkStates(t, what+", other", a, samples.Model(t, x.fill(f.b)), f.with)
			x.second, x.other = x.other, x.second
			x.first, x.other = x.other, x.first
			checkStates(t, what+", others", samples.Model(t, x.fill(f.a)), b, f.with)
			x.first, x.other = x.other, x.first
		}
	}
}

// checkStates checks a product, whose states are useful, and how many of them there are.
func checkStates(t *testing.T, what string, a, b api.Auto, states int) {
	t.Helper()
	out := hadamard(t, a, b)
	if out.States != states {
		t.Errorf("%s: %d states, not %d: %s", what, out.States, states, samples.Shown(out))
	}
	expectProduct(t, what, out, a, b, samples.Words(t, 2, 3))
}

func TestVanishings(t *testing.T) {
	for _, x := range vanishings() {
		c := samples.Case{Line: "ring " + x.ring}
		r := c.Ring(t)
		zero, v, w, other := semiring.Zero(r), c.Weight(t, x.first), c.Weight(t, x.second), c.Weight(t, x.other)
		if !semiring.Equal(semiring.Times(r, v, w), zero) || semiring.Equal(v, zero) || semiring.Equal(w, zero) {
			t.Errorf("%s: %s and %s", x.ring, x.first, x.second)
		}
		if semiring.Equal(semiring.Times(r, v, other), zero) || semiring.Equal(semiring.Times(r, w, other), zero) {
			t.Errorf("%s: %s", x.ring, x.other)
		}
	}
}

func TestWordsWithWeightZeroOnUsefulStates(t *testing.T) {
	// Arcs that are not Zero may have a product that is; the states stay useful.
	a := samples.Model(t, "ring sets;symbols a;states 3;initial 0 ffffffffffffffff;final 2 ffffffffffffffff;arc 0 a 1 00000000000000f0;arc 1 a 2 00000000000000ff")
	b := samples.Model(t, "ring sets;symbols a;states 3;initial 0 ffffffffffffffff;final 2 ffffffffffffffff;arc 0 a 1 00000000000000ff;arc 1 a 2 000000000000000f")
	out := hadamard(t, a, b)
	expect(t, "sets", out, []int{1, 1}, semiring.Zero(a.Ring))
	if out.States != 3 || len(out.Arcs) != 2 {
		t.Error(samples.Shown(out))
	}
	// The sum of two paths may be Zero as well.
	c := samples.Model(t, "ring rational;symbols a;states 4;initial 0 1;final 3 1;arc 0 a 1 1;arc 0 a 2 1;arc 1 a 3 1;arc 2 a 3 -1")
	d := samples.Model(t, "ring rational;symbols a;states 1;initial 0 1;final 0 1;arc 0 a 0 1/2")
	out = hadamard(t, c, d)
	expect(t, "rational", out, []int{1, 1}, semiring.Zero(c.Ring))
	if out.States != 4 || len(out.Arcs) != 4 {
		t.Error(samples.Shown(out))
	}
}
