package epsilon_test

import (
	"fmt"
	"math/rand"
	"slices"
	"strconv"
	"testing"

	"weighted/api"
	"weighted/automaton"
	"weighted/closure"
	"weighted/epsilon"
	"weighted/samples"
	"weighted/semiring"
)

// mustRemove returns the Remove of an automaton that has one. It is in normal form, without empty labels, and has the same states and Initial.
func mustRemove(t *testing.T, a api.Auto) api.Auto {
	t.Helper()
	b, e := epsilon.Remove(a)
	if e != api.OK || !automaton.Valid(b) {
		t.Fatalf("%s: Remove is %s, %v", samples.Shown(a), samples.Shown(b), e)
	}
	if !samples.Same(b, samples.Normal(t, b)) || slices.ContainsFunc(b.Arcs, func(x api.Arc) bool { return x.Label == 0 }) {
		t.Errorf("%s: Remove is not in normal form, or has empty labels: %s", samples.Shown(a), samples.Shown(b))
	}
	if b.States != a.States || !slices.EqualFunc(b.Initial, a.Initial, semiring.Equal) {
		t.Errorf("%s: Remove has other states or Initial: %s", samples.Shown(a), samples.Shown(b))
	}
	return b
}

// mustFail checks that Remove answers an error, and nothing else.
func mustFail(t *testing.T, what string, a api.Auto, want api.Errno) {
	t.Helper()
	if b, e := epsilon.Remove(a); e != want || !samples.Same(b, api.Auto{}) {
		t.Errorf("%s: Remove of %s is %s, %v, not %v", what, samples.Shown(a), samples.Shown(b), e, want)
	}
}

// weightOf returns the weight of the arc with these ends and this label in a normal form, or Zero.
func weightOf(n api.Auto, from, label, to int) api.Weight {
	for _, x := range n.Arcs {
		if x.From == from && x.Label == label && x.To == to {
			return x.Weight
		}
	}
	return semiring.Zero(n.Ring)
}

// matrixOf returns what P14.1 says of Matrix.
func matrixOf(n api.Auto) [][]api.Weight {
	out := make([][]api.Weight, n.States)
	for i := range out {
		for j := range n.States {
			out[i] = append(out[i], weightOf(n, i, 0, j))
		}
	}
	return out
}

// removalOf returns what P14.2 says of Remove, word for word.
func removalOf(n api.Auto) (api.Auto, api.Errno) {
	c, e := closure.Star(n.Ring, matrixOf(n))
	if e != api.OK {
		return api.Auto{}, e
	}
	sum := func(i int, weight func(k int) api.Weight) api.Weight {
		out := semiring.Zero(n.Ring)
		for k := range n.States {
			out = semiring.Plus(n.Ring, out, semiring.Times(n.Ring, c[i][k], weight(k)))
		}
		return out
	}
	out := n
	out.Arcs, out.Final = nil, nil
	for i := range n.States {
		out.Final = append(out.Final, sum(i, func(k int) api.Weight { return n.Final[k] }))
		for symbol := 1; symbol <= n.Symbols; symbol++ {
			for j := range n.States {
				w := sum(i, func(k int) api.Weight { return weightOf(n, k, symbol, j) })
				if !semiring.Equal(w, semiring.Zero(n.Ring)) {
					out.Arcs = append(out.Arcs, api.Arc{From: i, Label: symbol, To: j, Weight: w})
				}
			}
		}
	}
	if len(out.Arcs) > api.MaxArcs {
		return api.Auto{}, api.ErrLimit
	}
	return out, api.OK
}

// check holds both functions against the chapter, with the arcs in several orders.
func check(t *testing.T, a api.Auto) {
	t.Helper()
	source := rand.New(rand.NewSource(int64(len(a.Arcs))))
	n := samples.Normal(t, a)
	want, err := removalOf(n)
	a.Arcs = slices.Clone(a.Arcs)
	for range 3 {
		m, e := epsilon.Matrix(a)
		if e != api.OK || len(m) != a.States || !slices.EqualFunc(m, matrixOf(n), func(v, w []api.Weight) bool { return slices.EqualFunc(v, w, semiring.Equal) }) {
			t.Errorf("%s: Matrix is %v, %v", samples.Shown(a), m, e)
		}
		if err != api.OK {
			mustFail(t, "the chapter", a, err)
		} else if got := mustRemove(t, a); !samples.Same(got, want) {
			t.Errorf("%s: Remove is %s, not %s", samples.Shown(a), samples.Shown(got), samples.Shown(want))
		}
		source.Shuffle(len(a.Arcs), func(i, k int) { a.Arcs[i], a.Arcs[k] = a.Arcs[k], a.Arcs[i] })
	}
}

// random returns an automaton with so many arcs with symbols, with at most a dozen empty ones for which isEmpty is true, with equal ones among them, and with some that have the sum Zero.
func random(t *testing.T, source *rand.Rand, s samples.Case, states, size int, isEmpty func(from, to int) bool) api.Auto {
	t.Helper()
	template := fmt.Sprintf("symbols a b;states %d", states)
	weight := func(letter string) string {
		if source.Intn(4) == 0 {
			return "zero"
		}
		return letter + strconv.Itoa(source.Intn(9))
	}
	for i := range states {
		template += fmt.Sprintf(";initial %d %s;final %d %s", i, weight("w"), i, weight("w"))
	}
	for range size {
		from, to, symbol := source.Intn(states), source.Intn(states), []string{"a", "b"}[source.Intn(2)]
		template += fmt.Sprintf(";arc %d %s %d %s", from, symbol, to, weight("w"))
	}
	for range 12 {
		if from, to := source.Intn(states), source.Intn(states); isEmpty(from, to) {
			template += fmt.Sprintf(";arc %d - %d %s", from, to, weight("s"))
		}
	}
	template += fmt.Sprintf(";gone %d - %d;gone %d a %d", source.Intn(states), source.Intn(states), source.Intn(states), source.Intn(states))
	return samples.Model(t, s.Fill(template, 0))
}

// anywhere lets empty labels lead from any state to any.
func anywhere(_, _ int) bool { return true }

// onward lets empty labels lead to later states alone, so that there is no cycle of them.
func onward(from, to int) bool { return from < to }
