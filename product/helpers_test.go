package product_test

import (
	"slices"
	"testing"

	"weighted/api"
	"weighted/product"
	"weighted/samples"
	"weighted/semiring"
	"weighted/trim"
	"weighted/weigh"
)

// checked returns a product that is an automaton as the chapter asks for it.
func checked(t *testing.T, a, out api.Auto) api.Auto {
	t.Helper()
	useful, e := trim.Useful(out)
	if e != api.OK || slices.Contains(useful, false) {
		t.Fatalf("useful states %v, %v: %s", useful, e, samples.Shown(out))
	}
	if hasEmpty(out) {
		t.Fatalf("an empty label: %s", samples.Shown(out))
	}
	if !semiring.Same(out.Ring, a.Ring) || out.Symbols != a.Symbols {
		t.Fatalf("%s is no product of %s", samples.Shown(out), samples.Shown(a))
	}
	return out
}

// hasEmpty reports whether an arc has the empty label.
func hasEmpty(a api.Auto) bool {
	return slices.ContainsFunc(a.Arcs, func(x api.Arc) bool { return x.Label == 0 })
}

// hadamard returns the Hadamard of automata that have one.
func hadamard(t *testing.T, a, b api.Auto) api.Auto {
	t.Helper()
	out, e := product.Hadamard(a, b)
	return checked(t, a, samples.Must(t, out, e))
}

// left returns the LeftQuotient of an automaton that has one.
func left(t *testing.T, a api.Auto, word []int) api.Auto {
	t.Helper()
	out, e := product.LeftQuotient(a, word)
	return samples.Must(t, out, e)
}

// right returns the RightQuotient of an automaton that has one.
func right(t *testing.T, a api.Auto, word []int) api.Auto {
	t.Helper()
	out, e := product.RightQuotient(a, word)
	return samples.Must(t, out, e)
}

// restrict returns the Restrict of an automaton that is valid.
func restrict(t *testing.T, a api.Auto, symbols uint32) api.Auto {
	t.Helper()
	out, e := product.Restrict(a, symbols)
	return samples.Must(t, out, e)
}

// weight returns the weight that an automaton gives a word.
func weight(t *testing.T, a api.Auto, word []int) api.Weight {
	t.Helper()
	w, e := weigh.Weight(a, word)
	if e != api.OK {
		t.Fatalf("%s: no weight of %v: %v", samples.Shown(a), word, e)
	}
	return w
}

// expect checks the weight that an automaton gives a word.
func expect(t *testing.T, what string, a api.Auto, word []int, want api.Weight) {
	t.Helper()
	if got := weight(t, a, word); !semiring.Equal(got, want) {
		t.Errorf("%s: the word %v has the weight %s, not %s", what, word, semiring.Format(a.Ring, got), semiring.Format(a.Ring, want))
	}
}

// expectProduct checks that an automaton gives words the products of the weights that two others give them.
func expectProduct(t *testing.T, what string, out, a, b api.Auto, words [][]int) {
	t.Helper()
	for _, word := range words {
		expect(t, what, out, word, semiring.Times(a.Ring, weight(t, a, word), weight(t, b, word)))
	}
}

// expectSame checks that two automata give words the same weights.
func expectSame(t *testing.T, what string, a, b api.Auto, words [][]int) {
	t.Helper()
	for _, word := range words {
		expect(t, what, a, word, weight(t, b, word))
	}
}
