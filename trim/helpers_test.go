package trim_test

import (
	"fmt"
	"math/rand"
	"slices"
	"testing"

	"weighted/api"
	"weighted/automaton"
	"weighted/samples"
	"weighted/trim"
)

// ringCases returns a ring of each kind, and products. Some of their weights are Zero in one part alone, and some have a product that is Zero.
func ringCases() []samples.Case {
	return []samples.Case{
		{Line: "ring rational", Zero: "0", One: "1", Others: []string{"1", "1/2", "-1/2", "-7/3", "123456789012345678901234567890/7"}, Gone: []string{"1/2", "1/3", "-5/6"}},
		{Line: "ring tropical", Zero: "inf", One: "0", Others: []string{"0", "3", "1099511627776", "1"}, Gone: []string{"inf", "inf"}},
		{Line: "ring viterbi", Zero: "0", One: "1", Others: []string{"1", "1/2", "2/3"}, Gone: []string{"0", "0", "0"}},
		{Line: "ring sets", Zero: "0000000000000000", One: "ffffffffffffffff", Others: []string{"000000000000000f", "00000000000000f0", "ffffffffffffffff"}, Gone: []string{"0000000000000000"}},
		{Line: "ring polynomial", Zero: "0", One: "1", Others: []string{"a^5", "b^5", "1", "-a", "a*b+1/2"}, Gone: []string{"a+1", "-a", "-1"}},
		{Line: "ring product rational tropical", Zero: "0|inf", One: "1|0", Others: []string{"0|0", "1|inf", "1|0", "-1/2|3"}, Gone: []string{"1/2|inf", "-1/2|inf"}},
		{Line: "ring product rational rational", Zero: "0|0", One: "1|1", Others: []string{"0|3", "3|0", "1/2|-1/2"}, Gone: []string{"1|2", "-1|0", "0|-2"}},
		{Line: "ring product viterbi sets polynomial", Zero: "0|0000000000000000|0", One: "1|ffffffffffffffff|1",
			Others: []string{"0|0000000000000000|a", "1/2|0000000000000000|0", "0|0000000000000f00|0", "1|ffffffffffffffff|1"}, Gone: []string{"0|0000000000000000|-b", "0|0000000000000000|b"}},
	}
}

// marks reads which states are marked, each as 1 or 0.
func marks(text string) []bool {
	var out []bool
	for _, c := range text {
		out = append(out, c == '1')
	}
	return out
}

// mustUseful returns the useful states of an automaton that is valid.
func mustUseful(t *testing.T, a api.Auto) []bool {
	t.Helper()
	got, e := trim.Useful(a)
	if e != api.OK || len(got) != a.States {
		t.Fatalf("%v: Useful is %v, %v", a, got, e)
	}
	return got
}

// mustTrim returns the Trim of an automaton that is valid.
func mustTrim(t *testing.T, a api.Auto) api.Auto {
	t.Helper()
	got, e := trim.Trim(a)
	if e != api.OK || !automaton.Valid(got) {
		t.Fatalf("%v: Trim is %v, %v", a, got, e)
	}
	return got
}

// check checks the useful states and the Trim of an automaton, with its arcs in several orders.
func check(t *testing.T, what string, a api.Auto, useful []bool, want api.Auto) {
	t.Helper()
	source := rand.New(rand.NewSource(int64(len(a.Arcs))))
	a.Arcs = slices.Clone(a.Arcs)
	for round := range 4 {
		if got := mustUseful(t, a); !slices.Equal(got, useful) {
			t.Errorf("%s: Useful is %v, not %v", what, got, useful)
		}
		if got := mustTrim(t, a); !samples.Same(got, want) {
			t.Errorf("%s: Trim is %v, not %v", what, got, want)
		}
		slices.Reverse(a.Arcs)
		if round > 0 {
			source.Shuffle(len(a.Arcs), func(i, k int) { a.Arcs[i], a.Arcs[k] = a.Arcs[k], a.Arcs[i] })
		}
	}
}

// random returns an automaton with arcs of all labels, also the empty one, equal ones among them, some of the weight Zero and some with the sum Zero.
func random(t *testing.T, source *rand.Rand, s samples.Case, states, size int) api.Auto {
	t.Helper()
	weight := func() string {
		if source.Intn(2) > 0 {
			return "zero"
		}
		return fmt.Sprintf("w%d", source.Intn(len(s.Others)))
	}
	template := fmt.Sprintf("symbols a b;states %d", states)
	for i := range states {
		template += fmt.Sprintf(";initial %d %s;final %d %s", i, weight(), i, weight())
	}
	ends := func() string {
		return fmt.Sprintf("%d %s %d", source.Intn(states), []string{"-", "a", "b"}[source.Intn(3)], source.Intn(states))
	}
	for range size {
		template += fmt.Sprintf(";arc %s %s;gone %s", ends(), weight(), ends())
	}
	return samples.Model(t, s.Fill(template, 0))
}
