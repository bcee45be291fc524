package samples_test

import (
	"fmt"
	"slices"
	"strings"
	"testing"

	"weighted/api"
	"weighted/automaton"
	"weighted/samples"
	"weighted/semiring"
)

func TestCases(t *testing.T) {
	kinds := map[int]bool{}
	for _, c := range samples.Cases() {
		r := c.Ring(t)
		kinds[r.Kind] = true
		if !semiring.Equal(c.Weight(t, c.Zero), semiring.Zero(r)) || !semiring.Equal(c.Weight(t, c.One), semiring.One(r)) {
			t.Errorf("%s: %s and %s", c.Line, c.Zero, c.One)
		}
		sum := semiring.Zero(r)
		for _, text := range c.Gone {
			sum = semiring.Plus(r, sum, c.Weight(t, text))
		}
		if !semiring.Equal(sum, semiring.Zero(r)) {
			t.Errorf("%s: the sum of %v is %s", c.Line, c.Gone, semiring.Format(r, sum))
		}
		if len(c.Weights(t)) < 7 {
			t.Errorf("%s: few weights", c.Line)
		}
	}
	if len(kinds) != 6 {
		t.Errorf("kinds %v", kinds)
	}
}

func TestFill(t *testing.T) {
	c := samples.Case{Line: "L", Zero: "Z", One: "O", Small: []string{"A", "B"}, Others: []string{"C", "D", "E"}, Gone: []string{"F", "G"}}
	got := c.Fill("symbols a s;states 2;initial 0 zero;final 1 one;arc 0 a 1 s1;arc 0 a 1 w2;arc 0 a 1 x0;gone 0 - 1;arc 1 a 1 17", 1)
	want := "L;symbols a s;states 2;initial 0 Z;final 1 O;arc 0 a 1 A;arc 0 a 1 C;arc 0 a 1 x0;arc 0 - 1 F;arc 0 - 1 G;arc 1 a 1 17"
	if got != want {
		t.Errorf("%s, not %s", got, want)
	}
}

func TestWhatIsNotValid(t *testing.T) {
	for _, c := range samples.Cases() {
		for what, a := range c.Invalid(t) {
			if automaton.Valid(a) {
				t.Errorf("%s: %s: %s is valid", c.Line, what, samples.Shown(a))
			}
		}
		for i, w := range c.Wrong(t) {
			if semiring.Check(c.Ring(t), w) {
				t.Errorf("%s: %d: %v is a weight", c.Line, i, w)
			}
		}
	}
}

func TestSame(t *testing.T) {
	const text = "ring product rational tropical;symbols a b;states 2;initial 0 1|2;final 1 2|3;arc 0 a 1 3|4"
	a := samples.Model(t, text)
	if !samples.Same(a, samples.Model(t, text)) || !samples.Same(api.Auto{}, api.Auto{Arcs: []api.Arc{}}) {
		t.Error("equal automata")
	}
	for _, change := range []func(a *api.Auto){
		func(a *api.Auto) { a.Ring.Kind = 1 },
		func(a *api.Auto) { a.Ring.Parts = []int{2, 1} },
		func(a *api.Auto) { a.Symbols++ },
		func(a *api.Auto) { a.States++ },
		func(a *api.Auto) { a.Initial = nil },
		func(a *api.Auto) { a.Final = slices.Repeat(a.Final[1:], 2) },
		func(a *api.Auto) { a.Arcs = nil },
		func(a *api.Auto) { a.Arcs[0].From = 1 },
		func(a *api.Auto) { a.Arcs[0].Label = 2 },
		func(a *api.Auto) { a.Arcs[0].To = 0 },
		func(a *api.Auto) { a.Arcs[0].Weight = a.Final[1] },
	} {
		b := samples.Model(t, text)
		change(&b)
		if samples.Same(a, b) || samples.Same(b, a) {
			t.Errorf("%s and %s", samples.Shown(a), samples.Shown(b))
		}
	}
	if got := samples.Shown(a); got != "ring 6 1 2, 2 symbols; 0: 1|2, 0|inf; 1: 0|inf, 2|3; 0 1 1 3|4" {
		t.Error(got)
	}
}

func TestSized(t *testing.T) {
	a := samples.Sized(api.Ring{Kind: api.Sets}, 8, api.MaxArcs)
	if n := samples.Normal(t, a); len(n.Arcs) != api.MaxArcs || n.States != 8 {
		t.Errorf("%d arcs, %d states", len(n.Arcs), n.States)
	}
}

func TestWords(t *testing.T) {
	if got := fmt.Sprint(samples.Words(t, 2, 2)); got != "[[] [1] [2] [1 1] [1 2] [2 1] [2 2]]" {
		t.Error(got)
	}
}

// failed stands for a test that has to fail.
type failed struct{ message string }

func (f *failed) Helper() {}

func (f *failed) Fatalf(format string, arguments ...any) {
	f.message += fmt.Sprintf(format, arguments...)
}

func TestTextsThatAreWrong(t *testing.T) {
	for what, try := range map[string]func(f *failed){
		"line 2":         func(f *failed) { samples.Model(f, "ring sets;symbols 0") },
		"no weight":      func(f *failed) { samples.Cases()[0].Weight(f, "inf") },
		"no normal form": func(f *failed) { samples.Normal(f, api.Auto{}) },
	} {
		f := &failed{}
		try(f)
		if !strings.Contains(f.message, what) {
			t.Errorf("%s: %s", what, f.message)
		}
	}
}
