package combine_test

import (
	"testing"

	"weighted/api"
	"weighted/combine"
	"weighted/samples"
	"weighted/semiring"
)

// failPair checks that both functions of two automata answer an error.
func failPair(t *testing.T, what string, a, b api.Auto, want api.Errno) {
	t.Helper()
	out, e := combine.Union(a, b)
	samples.Fail(t, "Union, "+what, out, e, want)
	out, e = combine.Concat(a, b)
	samples.Fail(t, "Concat, "+what, out, e, want)
}

// failAll checks that all functions answer ErrForm for an automaton, those of two also with it as the first, the second and both.
func failAll(t *testing.T, what string, wrong, right api.Auto) {
	t.Helper()
	failPair(t, what+" as the first", wrong, right, api.ErrForm)
	failPair(t, what+" as the second", right, wrong, api.ErrForm)
	failPair(t, what+" as both", wrong, wrong, api.ErrForm)
	out, e := combine.Star(wrong)
	samples.Fail(t, "Star, "+what, out, e, api.ErrForm)
	out, e = combine.Reverse(wrong)
	samples.Fail(t, "Reverse, "+what, out, e, api.ErrForm)
	for _, w := range []api.Weight{semiring.One(right.Ring), semiring.Zero(right.Ring), {}, {Cost: -1}} {
		out, e = combine.Scale(wrong, w)
		samples.Fail(t, "Scale, "+what, out, e, api.ErrForm)
	}
}

func TestAutomataThatAreNotValid(t *testing.T) {
	for _, s := range samples.Cases() {
		right := samples.Sized(s.Ring(t), 2, 5)
		for what, a := range s.Invalid(t) {
			failAll(t, s.Line+": "+what, a, right)
		}
	}
}

func TestDifferentRings(t *testing.T) {
	lines := samples.Lines()
	for i, line := range lines {
		for k, other := range lines {
			a, b := samples.Model(t, line+";symbols a;states 1"), samples.Model(t, other+";symbols a;states 1")
			c := samples.Model(t, other+";symbols a b;states 1")
			none := samples.Model(t, other+";symbols a b c;states 0")
			if i == k {
				union(t, a, b)
				concat(t, a, b)
				failPair(t, line, a, c, api.ErrLabels)
				failPair(t, line, none, a, api.ErrLabels)
				continue
			}
			failPair(t, line+" and "+other, a, b, api.ErrRing)
			failPair(t, line+" and "+other, a, c, api.ErrRing)
			failPair(t, line+" and "+other, a, none, api.ErrRing)
			failPair(t, line+" and "+other, none, a, api.ErrRing)
		}
	}
}

func TestDifferentSymbols(t *testing.T) {
	for _, s := range samples.Cases() {
		r := s.Ring(t)
		for m := range api.MaxSymbols {
			for n := range api.MaxSymbols {
				a, b := api.Auto{Ring: r, Symbols: m + 1}, api.Auto{Ring: r, Symbols: n + 1}
				if m == n {
					samples.Expect(t, "Union", union(t, a, b), a)
					samples.Expect(t, "Concat", concat(t, a, b), a)
				} else {
					failPair(t, s.Line, a, b, api.ErrLabels)
				}
			}
		}
	}
}

func TestErrorsInTheirOrder(t *testing.T) {
	for _, s := range samples.Cases() {
		r := s.Ring(t)
		full, small := samples.Sized(r, api.MaxStates, api.MaxArcs), samples.Sized(r, 1, 1)
		other := samples.Sized(api.Ring{Kind: api.Product, Parts: []int{api.Sets, api.Sets}}, api.MaxStates, api.MaxArcs)
		narrow, strange, broken := full, other, full
		narrow.Arcs, narrow.Symbols = nil, api.MaxSymbols-1
		strange.Arcs, strange.Symbols = nil, 1
		broken.Final = broken.Final[1:]
		torn := strange
		torn.Initial = torn.Initial[1:]
		for _, x := range []struct {
			a, b api.Auto
			want api.Errno
		}{
			{full, small, api.ErrLimit},
			{full, full, api.ErrLimit},
			{full, narrow, api.ErrLabels},
			{small, narrow, api.ErrLabels},
			{full, other, api.ErrRing},
			{small, other, api.ErrRing},
			{full, strange, api.ErrRing},
			{small, strange, api.ErrRing},
			{full, broken, api.ErrForm},
			{small, broken, api.ErrForm},
			{narrow, broken, api.ErrForm},
			{other, broken, api.ErrForm},
			{strange, broken, api.ErrForm},
			{full, torn, api.ErrForm},
			{small, torn, api.ErrForm},
			{broken, torn, api.ErrForm},
			{api.Auto{}, full, api.ErrForm},
			{api.Auto{}, api.Auto{}, api.ErrForm},
		} {
			failPair(t, s.Line, x.a, x.b, x.want)
			failPair(t, s.Line, x.b, x.a, x.want)
		}
		out, e := combine.Star(full)
		samples.Fail(t, s.Line, out, e, api.ErrLimit)
		out, e = combine.Star(broken)
		samples.Fail(t, s.Line, out, e, api.ErrForm)
	}
}
