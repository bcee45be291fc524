package combine_test

import (
	"fmt"
	"math/rand"
	"slices"
	"strconv"
	"testing"

	"weighted/api"
	"weighted/automaton"
	"weighted/combine"
	"weighted/samples"
)

// must returns a result without error, after it has checked that it is in normal form.
func must(t *testing.T, a api.Auto, e api.Errno) api.Auto {
	t.Helper()
	if e != api.OK || !automaton.Valid(a) {
		t.Fatalf("%s, %v", samples.Shown(a), e)
	}
	if !samples.Same(a, samples.Normal(t, a)) {
		t.Errorf("not in normal form: %s", samples.Shown(a))
	}
	return a
}

// fail checks that a result is an error, and nothing else.
func fail(t *testing.T, what string, a api.Auto, e, want api.Errno) {
	t.Helper()
	if e != want || !samples.Same(a, api.Auto{}) {
		t.Errorf("%s: %s, %v, not %v", what, samples.Shown(a), e, want)
	}
}

// union returns the Union of automata that have one.
func union(t *testing.T, a, b api.Auto) api.Auto {
	t.Helper()
	out, e := combine.Union(a, b)
	return must(t, out, e)
}

// concat returns the Concat of automata that have one.
func concat(t *testing.T, a, b api.Auto) api.Auto {
	t.Helper()
	out, e := combine.Concat(a, b)
	return must(t, out, e)
}

// star returns the Star of an automaton that has one.
func star(t *testing.T, a api.Auto) api.Auto {
	t.Helper()
	out, e := combine.Star(a)
	return must(t, out, e)
}

// reverse returns the Reverse of an automaton that has one.
func reverse(t *testing.T, a api.Auto) api.Auto {
	t.Helper()
	out, e := combine.Reverse(a)
	return must(t, out, e)
}

// scale returns the Scale of an automaton that has one.
func scale(t *testing.T, a api.Auto, w api.Weight) api.Auto {
	t.Helper()
	out, e := combine.Scale(a, w)
	return must(t, out, e)
}

// random returns an automaton with so many states and arcs, some of them with the weight Zero, or with empty labels of small weights, of which there are at most six, or with the same ends and label as others.
func random(t *testing.T, source *rand.Rand, s samples.Case, states, size int) api.Auto {
	t.Helper()
	template := fmt.Sprintf("symbols a b;states %d", states)
	weight := func(letter string) string {
		if source.Intn(4) == 0 {
			return "zero"
		}
		return letter + strconv.Itoa(source.Intn(9))
	}
	for i := range states {
		template += fmt.Sprintf(";initial %d %s;final %d %s", i, weight("w"), i, weight("w"))
	}
	for i := range size {
		from, to := source.Intn(states), source.Intn(states)
		if label := []string{"a", "b", "-"}[source.Intn(3)]; label != "-" {
			template += fmt.Sprintf(";arc %d %s %d %s", from, label, to, weight("w"))
		} else if i < 6 {
			template += fmt.Sprintf(";arc %d - %d %s", from, to, weight("s"))
		}
	}
	if states > 0 {
		template += fmt.Sprintf(";gone %d - %d;gone %d a %d", source.Intn(states), source.Intn(states), source.Intn(states), source.Intn(states))
	}
	return samples.Model(t, s.Fill(template, 0))
}

// shuffled returns an automaton with its arcs in another order.
func shuffled(source *rand.Rand, a api.Auto) api.Auto {
	a.Arcs = slices.Clone(a.Arcs)
	source.Shuffle(len(a.Arcs), func(i, k int) { a.Arcs[i], a.Arcs[k] = a.Arcs[k], a.Arcs[i] })
	return a
}
