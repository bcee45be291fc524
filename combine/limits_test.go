package combine_test

import (
	"slices"
	"testing"

	"weighted/api"
	"weighted/combine"
	"weighted/samples"
	"weighted/semiring"
)

// without returns an automaton whose Initial and Final are Zero.
func without(a api.Auto) api.Auto {
	a.Initial = slices.Repeat([]api.Weight{semiring.Zero(a.Ring)}, a.States)
	a.Final = a.Initial
	return a
}

// padded returns an automaton with MaxArcs arcs and the same normal form, in which the first arc is left out.
func padded(a api.Auto) api.Auto {
	a.Arcs = slices.Clone(a.Arcs)
	zero := a.Arcs[0]
	zero.Weight = semiring.Zero(a.Ring)
	a.Arcs[0] = zero
	a.Arcs = append(a.Arcs, slices.Repeat([]api.Arc{zero}, api.MaxArcs-len(a.Arcs))...)
	slices.Reverse(a.Arcs)
	return a
}

// checkSize checks how many states and arcs a result has.
func checkSize(t *testing.T, what string, a api.Auto, states, arcs int) {
	t.Helper()
	if a.States != states || len(a.Arcs) != arcs {
		t.Errorf("%s: %d states and %d arcs, not %d and %d", what, a.States, len(a.Arcs), states, arcs)
	}
}

func TestAsManyStatesAsThereMayBe(t *testing.T) {
	for _, s := range samples.Cases() {
		r := s.Ring(t)
		for states := range api.MaxStates + 1 {
			a, b := without(samples.Sized(r, states, 0)), without(samples.Sized(r, api.MaxStates-states, 0))
			checkSize(t, s.Line, union(t, a, b), api.MaxStates, 0)
			checkSize(t, s.Line, concat(t, a, b), api.MaxStates, 0)
			b = without(samples.Sized(r, api.MaxStates-states+1, 0))
			if b.States <= api.MaxStates {
				failPair(t, s.Line, a, b, api.ErrLimit)
			}
			checkSize(t, s.Line, reverse(t, a), states, 0)
			checkSize(t, s.Line, scale(t, a, semiring.One(r)), states, 0)
			if states < api.MaxStates {
				checkSize(t, s.Line, star(t, a), states+1, 0)
			}
		}
		out, e := combine.Star(without(samples.Sized(r, api.MaxStates, 0)))
		samples.Fail(t, s.Line, out, e, api.ErrLimit)
		out, e = combine.Star(samples.Sized(r, api.MaxStates, api.MaxArcs))
		samples.Fail(t, s.Line, out, e, api.ErrLimit)
	}
}

func TestAsManyArcsOfUnion(t *testing.T) {
	for _, s := range samples.Cases() {
		r := s.Ring(t)
		for _, arcs := range []int{1, 1024} {
			a, b, more := samples.Sized(r, 32, arcs), samples.Sized(r, 32, api.MaxArcs-arcs), samples.Sized(r, 32, api.MaxArcs-arcs+1)
			checkSize(t, s.Line, union(t, a, b), 64, api.MaxArcs)
			checkSize(t, s.Line, union(t, b, a), 64, api.MaxArcs)
			out, e := combine.Union(a, more)
			samples.Fail(t, s.Line, out, e, api.ErrLimit)
			out, e = combine.Union(more, a)
			samples.Fail(t, s.Line, out, e, api.ErrLimit)
			// Arcs that are Zero, or that are one, do not count.
			checkSize(t, s.Line, union(t, a, padded(more)), 64, api.MaxArcs)
			checkSize(t, s.Line, union(t, padded(more), a), 64, api.MaxArcs)
			checkSize(t, s.Line, union(t, padded(a), padded(more)), 64, api.MaxArcs-1)
		}
		all := samples.Sized(r, 32, api.MaxArcs)
		checkSize(t, s.Line, union(t, all, samples.Sized(r, 32, 0)), 64, api.MaxArcs)
		out, e := combine.Union(all, samples.Sized(r, 32, 1))
		samples.Fail(t, s.Line, out, e, api.ErrLimit)
		out, e = combine.Union(all, all)
		samples.Fail(t, s.Line, out, e, api.ErrLimit)
	}
}

func TestAsManyArcsOfConcat(t *testing.T) {
	for _, s := range samples.Cases() {
		r := s.Ring(t)
		zero := semiring.Zero(r)
		// There are 32 * 32 new arcs.
		a, b := samples.Sized(r, 32, 500), samples.Sized(r, 32, 524)
		checkSize(t, s.Line, concat(t, a, b), 64, api.MaxArcs)
		checkSize(t, s.Line, concat(t, b, a), 64, api.MaxArcs)
		more := samples.Sized(r, 32, 525)
		out, e := combine.Concat(a, more)
		samples.Fail(t, s.Line, out, e, api.ErrLimit)
		out, e = combine.Concat(more, a)
		samples.Fail(t, s.Line, out, e, api.ErrLimit)
		checkSize(t, s.Line, concat(t, a, padded(more)), 64, api.MaxArcs)
		checkSize(t, s.Line, concat(t, padded(more), a), 64, api.MaxArcs)
		// With a Final that is Zero there are 32 fewer, and with an Initial too.
		a.Final[31], more = zero, samples.Sized(r, 32, 524+32)
		checkSize(t, s.Line, concat(t, a, more), 64, api.MaxArcs)
		out, e = combine.Concat(a, samples.Sized(r, 32, 524+33))
		samples.Fail(t, s.Line, out, e, api.ErrLimit)
		more = samples.Sized(r, 32, 524+32+31)
		more.Initial[0] = zero
		checkSize(t, s.Line, concat(t, a, more), 64, api.MaxArcs)
		out, e = combine.Concat(a, b)
		checkSize(t, s.Line, samples.Must(t, out, e), 64, api.MaxArcs-32)
		// An Initial of the first, or a Final of the second, makes no difference.
		a.Initial[3], more.Final[4] = zero, zero
		checkSize(t, s.Line, concat(t, a, more), 64, api.MaxArcs)
	}
}

func TestProductsThatAreZeroDoNotCount(t *testing.T) {
	for _, x := range [][3]string{{"sets", "00000000000000f0", "000000000000000f"}, {"tropical", "1099511627776", "1"}, {"polynomial", "a^3", "b^3"}, {"product rational sets", "1|00000000000000f0", "0|000000000000000f"}} {
		a, b := samples.Model(t, "ring "+x[0]+";symbols a;states 1;final 0 "+x[1]), samples.Model(t, "ring "+x[0]+";symbols a;states 1;initial 0 "+x[2])
		m, n := samples.Sized(a.Ring, 32, 1000), samples.Sized(a.Ring, 32, 1048)
		m.Final, n.Initial = slices.Repeat(a.Final, 32), slices.Repeat(b.Initial, 32)
		checkSize(t, x[0], concat(t, m, n), 64, api.MaxArcs)
		m.Arcs = samples.Sized(a.Ring, 32, 1001).Arcs
		out, e := combine.Concat(m, n)
		samples.Fail(t, x[0], out, e, api.ErrLimit)
	}
}

func TestAsManyArcsOfStar(t *testing.T) {
	for _, s := range samples.Cases() {
		r := s.Ring(t)
		zero := semiring.Zero(r)
		for _, states := range []int{31, 62, 63} {
			// Each state has two new arcs.
			a, more := samples.Sized(r, states, api.MaxArcs-2*states), samples.Sized(r, states, api.MaxArcs-2*states+1)
			checkSize(t, s.Line, star(t, a), states+1, api.MaxArcs)
			out, e := combine.Star(more)
			samples.Fail(t, s.Line, out, e, api.ErrLimit)
			checkSize(t, s.Line, star(t, padded(more)), states+1, api.MaxArcs)
			more.Initial[states-1] = zero
			checkSize(t, s.Line, star(t, more), states+1, api.MaxArcs)
			more = samples.Sized(r, states, api.MaxArcs-2*states+2)
			more.Final[0] = zero
			out, e = combine.Star(more)
			samples.Fail(t, s.Line, out, e, api.ErrLimit)
			more.Initial[0] = zero
			checkSize(t, s.Line, star(t, more), states+1, api.MaxArcs)
		}
		all := without(samples.Sized(r, 63, api.MaxArcs))
		checkSize(t, s.Line, star(t, all), 64, api.MaxArcs)
		all.Final = slices.Clone(all.Final)
		all.Final[62] = semiring.One(r)
		out, e := combine.Star(all)
		samples.Fail(t, s.Line, out, e, api.ErrLimit)
	}
}

func TestAsManyArcsOfReverseAndScale(t *testing.T) {
	for _, s := range samples.Cases() {
		r := s.Ring(t)
		all := samples.Sized(r, api.MaxStates, api.MaxArcs)
		samples.Expect(t, s.Line, reverse(t, all), reverseOf(all))
		for _, w := range s.Weights(t)[:3] {
			samples.Expect(t, s.Line, scale(t, all, w), scaleOf(all, w))
		}
		checkSize(t, s.Line, reverse(t, padded(all)), 64, api.MaxArcs-1)
		checkSize(t, s.Line, scale(t, padded(all), semiring.One(r)), 64, api.MaxArcs-1)
	}
}
