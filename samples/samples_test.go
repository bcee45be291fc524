package samples_test

import (
	"fmt"
	"math/rand"
	"slices"
	"strings"
	"testing"

	"weighted/api"
	"weighted/automaton"
	"weighted/samples"
	"weighted/semiring"
)

func TestCases(t *testing.T) {
	kinds := map[int]bool{}
	for _, c := range samples.Cases() {
		r := c.Ring(t)
		kinds[r.Kind] = true
		if !semiring.Equal(c.Weight(t, c.Zero), semiring.Zero(r)) || !semiring.Equal(c.Weight(t, c.One), semiring.One(r)) {
			t.Errorf("%s: %s and %s", c.Line, c.Zero, c.One)
		}
		sum := semiring.Zero(r)
		for _, text := range c.Gone {
			sum = semiring.Plus(r, sum, c.Weight(t, text))
		}
		if !semiring.Equal(sum, semiring.Zero(r)) {
			t.Errorf("%s: the sum of %v is %s", c.Line, c.Gone, semiring.Format(r, sum))
		}
		if len(c.Weights(t)) < 7 {
			t.Errorf("%s: few weights", c.Line)
		}
	}
	if len(kinds) != 6 {
		t.Errorf("kinds %v", kinds)
	}
}

func TestCancelling(t *testing.T) {
	for _, c := range samples.Cancelling() {
		r := c.Ring(t)
		zero, gone := semiring.Zero(r), 0
		if !semiring.Equal(c.Weight(t, c.Zero), zero) || !semiring.Equal(c.Weight(t, c.One), semiring.One(r)) {
			t.Errorf("%s: %s and %s", c.Line, c.Zero, c.One)
		}
		for _, v := range c.Others {
			for _, w := range c.Others {
				if semiring.Equal(c.Weight(t, v), zero) {
					t.Errorf("%s: %s is Zero", c.Line, v)
				}
				if semiring.Equal(semiring.Plus(r, c.Weight(t, v), c.Weight(t, w)), zero) {
					gone++
				}
			}
		}
		if gone == 0 {
			t.Errorf("%s: no sum is Zero", c.Line)
		}
	}
}

func TestLines(t *testing.T) {
	lines := samples.Lines()
	for i, line := range lines {
		for k, other := range lines {
			r, s := samples.Case{Line: line}.Ring(t), samples.Case{Line: other}.Ring(t)
			if semiring.Same(r, s) != (i == k) {
				t.Errorf("%s and %s", line, other)
			}
		}
	}
}

func TestFill(t *testing.T) {
	c := samples.Case{Line: "L", Zero: "Z", One: "O", Small: []string{"A", "B"}, Others: []string{"C", "D", "E"}, Gone: []string{"F", "G"}}
	got := c.Fill("symbols a s;states 2;initial 0 zero;final 1 one;arc 0 a 1 s1;arc 0 a 1 w2;arc 0 a 1 x0;gone 0 - 1;arc 1 a 1 17", 1)
	want := "L;symbols a s;states 2;initial 0 Z;final 1 O;arc 0 a 1 A;arc 0 a 1 C;arc 0 a 1 x0;arc 0 - 1 F;arc 0 - 1 G;arc 1 a 1 17"
	if got != want {
		t.Errorf("%s, not %s", got, want)
	}
}

func TestWhatIsNotValid(t *testing.T) {
	for _, c := range samples.Cases() {
		for what, a := range c.Invalid(t) {
			if automaton.Valid(a) {
				t.Errorf("%s: %s: %s is valid", c.Line, what, samples.Shown(a))
			}
		}
		for i, w := range c.Wrong(t) {
			if semiring.Check(c.Ring(t), w) {
				t.Errorf("%s: %d: %v is a weight", c.Line, i, w)
			}
		}
	}
}

func TestSame(t *testing.T) {
	const text = "ring product rational tropical;symbols a b;states 2;initial 0 1|2;final 1 2|3;arc 0 a 1 3|4"
	a := samples.Model(t, text)
	if !samples.Same(a, samples.Model(t, text)) || !samples.Same(api.Auto{}, api.Auto{Arcs: []api.Arc{}}) {
		t.Error("equal automata")
	}
	for _, change := range []func(a *api.Auto){
		func(a *api.Auto) { a.Ring.Kind = 1 },
		func(a *api.Auto) { a.Ring.Parts = []int{2, 1} },
		func(a *api.Auto) { a.Symbols++ },
		func(a *api.Auto) { a.States++ },
		func(a *api.Auto) { a.Initial = nil },
		func(a *api.Auto) { a.Final = slices.Repeat(a.Final[1:], 2) },
		func(a *api.Auto) { a.Arcs = nil },
		func(a *api.Auto) { a.Arcs[0].From = 1 },
		func(a *api.Auto) { a.Arcs[0].Label = 2 },
		func(a *api.Auto) { a.Arcs[0].To = 0 },
		func(a *api.Auto) { a.Arcs[0].Weight = a.Final[1] },
	} {
		b := samples.Model(t, text)
		change(&b)
		if samples.Same(a, b) || samples.Same(b, a) {
			t.Errorf("%s and %s", samples.Shown(a), samples.Shown(b))
		}
	}
	if got := samples.Shown(a); got != "ring 6 1 2, 2 symbols; 0: 1|2, 0|inf; 1: 0|inf, 2|3; 0 1 1 3|4" {
		t.Error(got)
	}
}

func TestSized(t *testing.T) {
	a := samples.Sized(api.Ring{Kind: api.Sets}, 8, api.MaxArcs)
	if n := samples.Normal(t, a); len(n.Arcs) != api.MaxArcs || n.States != 8 {
		t.Errorf("%d arcs, %d states", len(n.Arcs), n.States)
	}
}

func TestWords(t *testing.T) {
	if got := fmt.Sprint(samples.Words(t, 2, 2)); got != "[[] [1] [2] [1 1] [1 2] [2 1] [2 2]]" {
		t.Error(got)
	}
}

func TestResults(t *testing.T) {
	a := samples.Sized(api.Ring{Kind: api.Sets}, 2, 1)
	samples.Expect(t, "the result", samples.Must(t, a, api.OK), a)
	samples.Fail(t, "the error", api.Auto{}, api.ErrForm, api.ErrForm)
}

func TestRandom(t *testing.T) {
	source := rand.New(rand.NewSource(1))
	for _, c := range samples.Cases() {
		seen := map[string]bool{}
		for range 50 {
			a := c.Random(t, source.Intn, 3, 20, true)
			n := samples.Normal(t, c.Random(t, source.Intn, 3, 20, false))
			seen[samples.Shown(a)] = true
			empty := slices.ContainsFunc(samples.Normal(t, a).Arcs, func(x api.Arc) bool { return x.Label == 0 })
			seen["empty labels "+fmt.Sprint(empty)] = true
			if slices.ContainsFunc(n.Arcs, func(x api.Arc) bool { return x.Label == 0 }) || len(n.Arcs) < 5 {
				t.Errorf("%s: %s", c.Line, samples.Shown(n))
			}
		}
		if len(seen) != 52 {
			t.Errorf("%s: %d automata", c.Line, len(seen))
		}
		if a := c.Random(t, source.Intn, 0, 0, true); a.States != 0 {
			t.Errorf("%s: %s", c.Line, samples.Shown(a))
		}
	}
}

func TestShuffled(t *testing.T) {
	source := rand.New(rand.NewSource(2))
	a := samples.Sized(api.Ring{Kind: api.Rational}, 2, 7)
	before := slices.Clone(a.Arcs)
	seen := map[string]bool{}
	for range 20 {
		b := samples.Shuffled(source.Intn, a)
		samples.Expect(t, "the normal form", samples.Normal(t, b), samples.Normal(t, a))
		seen[samples.Shown(b)] = true
	}
	if len(seen) < 15 || fmt.Sprint(before) != fmt.Sprint(a.Arcs) {
		t.Errorf("%d orders, %v, %v", len(seen), before, a.Arcs)
	}
}

// failed stands for a test that has to fail.
type failed struct{ message string }

func (f *failed) Helper() {}

func (f *failed) Fatalf(format string, arguments ...any) {
	f.message += fmt.Sprintf(format, arguments...)
}

func TestTextsThatAreWrong(t *testing.T) {
	for what, try := range map[string]func(f *failed){
		"line 2":         func(f *failed) { samples.Model(f, "ring sets;symbols 0") },
		"no weight":      func(f *failed) { samples.Cases()[0].Weight(f, "inf") },
		"no normal form": func(f *failed) { samples.Normal(f, api.Auto{}) },
		"0 symbols, 0":   func(f *failed) { samples.Must(f, api.Auto{}, api.OK) },
		"0 symbols, 4":   func(f *failed) { samples.Must(f, api.Auto{}, api.ErrForm) },
		"in normal form": func(f *failed) {
			a := samples.Sized(api.Ring{Kind: api.Sets}, 2, 2)
			slices.Reverse(a.Arcs)
			samples.Must(f, a, api.OK)
		},
		"what: ring 0, 0 symbols, 0, not 4": func(f *failed) { samples.Fail(f, "what", api.Auto{}, api.OK, api.ErrForm) },
		"what: ring 4, 0 symbols, 4, not 4": func(f *failed) {
			samples.Fail(f, "what", api.Auto{Ring: api.Ring{Kind: api.Sets}}, api.ErrForm, api.ErrForm)
		},
		"what is ring 0, 3 symbols, not ring 0, 0 symbols": func(f *failed) { samples.Expect(f, "what", api.Auto{Symbols: 3}, api.Auto{}) },
	} {
		f := &failed{}
		try(f)
		if !strings.Contains(f.message, what) {
			t.Errorf("%s: %s", what, f.message)
		}
	}
}
