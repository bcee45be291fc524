package epsilon_test

import (
	"slices"
	"strings"
	"testing"

	"weighted/api"
	"weighted/epsilon"
	"weighted/samples"
)

// checkNone checks that both functions answer ErrForm, and nothing else.
func checkNone(t *testing.T, what string, a api.Auto) {
	t.Helper()
	if m, e := epsilon.Matrix(a); e != api.ErrForm || len(m) > 0 {
		t.Errorf("%s: Matrix is %v, %v", what, m, e)
	}
	mustFail(t, what, a, api.ErrForm)
}

// many returns so many elements, those of a list over and over.
func many[T any](list []T, size int) []T {
	return slices.Repeat(list, size)[:size]
}

func TestAutomataThatAreNotValid(t *testing.T) {
	for _, s := range samples.Cases() {
		for what, a := range s.Invalid(t) {
			checkNone(t, s.Line+": "+what, a)
		}
	}
}

func TestMatricesWithAndWithoutStar(t *testing.T) {
	for _, x := range []struct {
		ring, arcs string
		want       bool
	}{
		// At once.
		{"rational", "0 - 0 1", false},
		{"rational", "0 - 0 -1", false},
		{"rational", "0 - 0 -2", false},
		{"rational", "2 - 2 3/2", false},
		{"rational", "0 - 0 999/1000", true},
		{"rational", "0 - 0 -999/1000", true},
		{"rational", "0 - 1 1000", true},
		{"rational", "0 a 0 1;0 a 1 7;1 a 0 -7", true},
		// As the sum of several arcs, or not.
		{"rational", "0 - 0 1/2;0 - 0 1/2", false},
		{"rational", "0 - 0 2;0 - 0 -3/2", true},
		{"rational", "0 - 0 1;0 - 0 -1", true},
		{"rational", "0 - 0 1/2;0 - 0 -2", false},
		{"rational", "0 - 0 1/3;0 - 0 1/3;0 a 0 1/3", true},
		// Only through a cycle.
		{"rational", "0 - 1 1;1 - 0 1", false},
		{"rational", "0 - 1 1;1 - 0 -1", false},
		{"rational", "0 - 1 1/2;1 - 0 2", false},
		{"rational", "0 - 1 1/2;1 - 0 1999/1000", true},
		{"rational", "0 - 1 1;1 a 0 1", true},
		{"rational", "0 - 1 1/2;1 - 2 1/2;2 - 0 4", false},
		{"rational", "0 - 1 1/2;1 - 2 1/2;2 - 0 3", true},
		{"rational", "0 - 1 9;1 - 2 9;0 - 2 9", true},
		{"rational", "0 - 0 1/2;0 - 1 1/2;1 - 0 1/2;1 - 1 1/2", false},
		{"rational", "0 - 0 1/2;0 - 1 -1/2;1 - 0 1/2;1 - 1 1/2", false},
		{"rational", "0 - 0 1/2;0 - 1 1/2;1 - 0 1/2;1 - 1 1/3", true},
		{"rational", "0 - 1 1;1 - 0 1;0 - 1 -1", true},
		{"tropical", "0 - 0 0;0 - 1 0;1 - 0 0", true},
		{"viterbi", "0 - 0 1;0 - 1 1;1 - 0 1", true},
		{"sets", "0 - 0 ffffffffffffffff;0 - 1 ffffffffffffffff;1 - 0 ffffffffffffffff", true},
		{"polynomial", "0 - 0 1", false},
		{"polynomial", "0 - 0 100*a", true},
		{"polynomial", "0 - 0 a-1", false},
		{"polynomial", "0 - 1 a+1;1 - 0 b-1", false},
		{"polynomial", "0 - 1 a+1;1 - 0 b", true},
		{"polynomial", "0 - 0 a+1;0 - 0 -1", true},
		{"product rational tropical", "0 - 0 1|inf", false},
		{"product rational tropical", "0 - 0 1/2|0", true},
		{"product tropical rational", "0 - 1 0|1;1 - 0 0|-1", false},
		{"product rational rational", "0 - 1 1|0;1 - 0 0|1", true},
		{"product viterbi sets polynomial", "1 - 1 1|ffffffffffffffff|a", true},
		{"product viterbi sets polynomial", "1 - 1 1|ffffffffffffffff|a+1", false},
	} {
		a := samples.Model(t, "ring "+x.ring+";symbols a;states 3;arc "+strings.ReplaceAll(x.arcs, ";", ";arc "))
		if x.want {
			mustRemove(t, a)
		} else {
			mustFail(t, x.ring, a, api.ErrStar)
		}
		check(t, a)
	}
}

// manyArcs returns an automaton in which states 1 and 2, to which an empty label leads from state 0, have so many arcs with symbols, all of them with other labels or ends.
func manyArcs(t *testing.T, s samples.Case, first, second int) api.Auto {
	t.Helper()
	a := samples.Model(t, s.Fill("symbols "+names()+";states 64;arc 0 - 1 one;arc 0 - 2 one;arc 0 - 3 zero", 0))
	one := a.Arcs[0].Weight
	for i := range first + second {
		x := api.Arc{From: 1, Label: 1 + i/api.MaxStates, To: i % api.MaxStates, Weight: one}
		if i >= first {
			x.From = 2
		}
		a.Arcs = append(a.Arcs, x)
	}
	return a
}

// names returns the names of a whole table.
func names() string {
	var out []string
	for i := range api.MaxSymbols {
		out = append(out, string([]byte{'a' + byte(i/26), 'a' + byte(i%26)}))
	}
	return strings.Join(out, " ")
}

func TestAsManyArcsAsThereMayBe(t *testing.T) {
	for _, s := range samples.Cases() {
		// Each arc of states 1 and 2 is one of state 0 too.
		if got := mustRemove(t, manyArcs(t, s, 700, 324)); len(got.Arcs) != api.MaxArcs {
			t.Errorf("%s: %d arcs", s.Line, len(got.Arcs))
		}
		mustFail(t, s.Line, manyArcs(t, s, 700, 325), api.ErrLimit)
		mustFail(t, s.Line, manyArcs(t, s, 0, 1025), api.ErrLimit)
		mustFail(t, s.Line, manyArcs(t, s, 1000, 1045), api.ErrLimit)
		// The last of the arcs is that of the last state.
		a := manyArcs(t, s, 700, 324)
		one := a.Arcs[0].Weight
		a.Arcs = append(a.Arcs, api.Arc{From: 63, Label: 1, To: 63, Weight: one})
		mustFail(t, s.Line, a, api.ErrLimit)
		// Without empty labels, the normal form has as many arcs as there may be.
		b := manyArcs(t, s, 0, api.MaxArcs)
		b.Arcs = b.Arcs[3:]
		if got, want := mustRemove(t, b), samples.Normal(t, b); len(got.Arcs) != api.MaxArcs || !samples.Same(got, want) {
			t.Errorf("%s: %d arcs", s.Line, len(got.Arcs))
		}
	}
}

func TestArcsThatAreZeroDoNotCount(t *testing.T) {
	// The arcs of state 0 itself have, with those behind empty labels, the sum 0. With them there would be too many.
	a := manyArcs(t, samples.Cases()[0], 900, 125)
	minus := a.Arcs[0].Weight
	minus.Q.Neg = true
	for i := range 1000 {
		a.Arcs = append(a.Arcs, api.Arc{From: 0, Label: 1 + i/api.MaxStates, To: i % api.MaxStates, Weight: minus})
	}
	if got := mustRemove(t, a); len(got.Arcs) != 1050 || got.Arcs[24].From != 0 || got.Arcs[25].From != 1 {
		t.Errorf("%d arcs", len(got.Arcs))
	}
	// Of arcs that the normal form makes one, also of more than are needed, one counts.
	b := manyArcs(t, samples.Cases()[1], 700, 324)
	b.Arcs = append(b.Arcs, slices.Repeat(b.Arcs[700:701], 900)...)
	if got := mustRemove(t, b); len(got.Arcs) != api.MaxArcs {
		t.Errorf("%d arcs", len(got.Arcs))
	}
}

func TestErrorsInTheirOrder(t *testing.T) {
	for _, s := range samples.Cases() {
		for shift := range s.Wide {
			a := manyArcs(t, s, 1000, 1000)
			a.Arcs = append(a.Arcs, samples.Model(t, s.Fill("symbols a;states 64;arc 63 - 63 x0", shift)).Arcs...)
			mustFail(t, s.Line, a, api.ErrStar)
			b := a
			b.Arcs = slices.Clone(a.Arcs)
			b.Arcs[5].Label = api.MaxSymbols + 1
			checkNone(t, s.Line, b)
			c := a
			c.Final = append(slices.Clone(a.Final[1:]), api.Weight{Inf: true, Cost: 1})
			checkNone(t, s.Line, c)
		}
		a := manyArcs(t, s, 1000, 1000)
		mustFail(t, s.Line, a, api.ErrLimit)
		a.Arcs[1].To = -1
		checkNone(t, s.Line, a)
	}
}
