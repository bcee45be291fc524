package compose_test

import (
	"testing"

	"weighted/api"
	"weighted/samples"
	"weighted/semiring"
)

// failBoth checks that two transducers have no composition in either order.
func failBoth(t *testing.T, what string, x, y api.Trans, want api.Errno) {
	t.Helper()
	fail(t, what, x, y, want)
	fail(t, what+", exchanged", y, x, want)
}

func TestTransducersThatAreNotValid(t *testing.T) {
	for _, c := range samples.Cases() {
		right := samples.Trans(t, c.Fill("in 2;out 2;states 2;initial 0 one;final 1 one;arc 0 1 2 1 w0;arc 0 0 0 1 w1", 0))
		composed(t, right, right)
		for what, wrong := range c.InvalidTrans(t) {
			what = c.Line + ": " + what
			failBoth(t, what, wrong, right, api.ErrForm)
			fail(t, what, wrong, wrong, api.ErrForm)
			fail(t, what, wrong, samples.Turned(wrong), api.ErrForm)
		}
	}
}

func TestDifferentRings(t *testing.T) {
	lines := samples.Lines()
	for i, line := range lines {
		for k, other := range lines {
			x, y := samples.Trans(t, line+";in 1;out 1;states 1"), samples.Trans(t, other+";in 1;out 1;states 1")
			if i == k {
				expect(t, line, x, y, api.Trans{Ring: x.Ring, In: 1, Out: 1})
				continue
			}
			fail(t, line+" and "+other, x, y, api.ErrRing)
			// Also where the labels do not fit, or there are no states.
			failBoth(t, line+" and "+other, x, samples.Trans(t, other+";in 2;out 2;states 0"), api.ErrRing)
		}
	}
}

func TestDifferentSymbols(t *testing.T) {
	for _, c := range samples.Cases() {
		r := c.Ring(t)
		for m := 1; m <= api.MaxSymbols; m++ {
			for n := 1; n <= api.MaxSymbols; n++ {
				// The symbols of the outside may be as many as they like.
				x, y := samples.Trans(t, c.Fill("in 1;out 1;states 1;initial 0 one;final 0 one", 0)), api.Trans{Ring: r}
				x.In, x.Out, y.In, y.Out = 1+(m*7+n)%api.MaxSymbols, m, n, 1+(m+n*5)%api.MaxSymbols
				if m == n {
					expect(t, c.Line, x, y, api.Trans{Ring: r, In: x.In, Out: y.Out})
				} else {
					fail(t, c.Line, x, y, api.ErrLabels)
				}
				// What the first one reads and the second one writes may fit instead, which is not enough.
				x.In, y.Out = n, m
				if m != n {
					fail(t, c.Line, x, y, api.ErrLabels)
				}
			}
		}
	}
}

func TestErrorsInTheirOrder(t *testing.T) {
	for _, c := range samples.Cases() {
		small := samples.Trans(t, c.Fill("in 2;out 3;states 2;initial 0 one;final 1 one;arc 0 1 3 1 one", 0))
		fits := samples.Turned(small)
		// With 64 states each, all of them at the start and at the end, the composition is too large.
		large := sized(c.Ring(t), 64, 0)
		large.In, large.Out = 2, 3
		turned := samples.Turned(large)
		narrow := turned
		narrow.In = 2
		strange := sized(api.Ring{Kind: api.Product, Parts: []int{api.Sets, api.Sets}}, 64, 0)
		strange.In, strange.Out = 3, 2
		strangeAndNarrow := strange
		strangeAndNarrow.In = 2
		broken := turned
		broken.Final = broken.Final[1:]
		brokenAndNarrow := narrow
		brokenAndNarrow.Initial = nil
		brokenAndStrange := strangeAndNarrow
		brokenAndStrange.Initial = brokenAndStrange.Initial[1:]
		composed(t, small, fits)
		for _, x := range []struct {
			y    api.Trans
			want api.Errno
		}{
			{turned, api.ErrLimit},
			{narrow, api.ErrLabels},
			{strange, api.ErrRing},
			{strangeAndNarrow, api.ErrRing},
			{broken, api.ErrForm},
			{brokenAndNarrow, api.ErrForm},
			{brokenAndStrange, api.ErrForm},
			{api.Trans{}, api.ErrForm},
		} {
			fail(t, c.Line, large, x.y, x.want)
			// The same with the transducers turned and exchanged.
			fail(t, c.Line+", turned", samples.Turned(x.y), samples.Turned(large), x.want)
			if x.want != api.ErrLimit {
				fail(t, c.Line+", small", small, x.y, x.want)
			}
			failBoth(t, c.Line+", both", broken, x.y, api.ErrForm)
			failBoth(t, c.Line+", both", brokenAndStrange, x.y, api.ErrForm)
		}
	}
}

func TestResultsAreNewMemory(t *testing.T) {
	// All else of this is in folder rules: here stand the ways in which a weight could be that of an argument.
	for _, c := range samples.Cases() {
		for shift := range 3 {
			x := samples.Trans(t, c.Fill("in 1;out 1;states 2;initial 0 w0;final 1 w0;arc 0 1 1 1 w0;arc 0 1 0 1 w0;arc 1 0 1 0 w0", shift))
			y := samples.Trans(t, c.Fill("in 1;out 1;states 2;initial 0 one;final 1 one;arc 0 1 1 1 one;arc 1 0 1 0 one", shift))
			for _, z := range [][2]api.Trans{{x, y}, {samples.Turned(y), samples.Turned(x)}, {x, x}} {
				before := samples.ShownTrans(z[0]) + samples.ShownTrans(z[1])
				out := composed(t, z[0], z[1])
				want := samples.ShownTrans(out)
				samples.OverwriteTrans(out)
				if after := samples.ShownTrans(z[0]) + samples.ShownTrans(z[1]); after != before {
					t.Fatalf("%s: %s became %s", c.Line, before, after)
				}
				if got := samples.ShownTrans(composed(t, z[0], z[1])); got != want {
					t.Fatalf("%s: %s became %s", c.Line, want, got)
				}
			}
		}
	}
}

func TestArcsOfTheNormalForms(t *testing.T) {
	for _, c := range samples.Cases() {
		// Arcs that are Zero, several with the same labels and ends, in any order.
		x := samples.Trans(t, c.Fill("in 2;out 2;states 2;initial 0 one;final 1 one;arc 1 1 1 1 zero;gone 0 1 0 1;arc 0 1 2 1 w0;gone 1 0 0 0;arc 0 1 1 1 w1;gone 0 1 1 0", 0))
		y := samples.Trans(t, c.Fill("in 2;out 2;states 2;initial 0 one;final 1 one;gone 0 0 1 1;arc 0 2 1 1 one;gone 0 0 0 1;arc 1 0 1 1 zero;arc 0 1 2 1 one", 0))
		want := samples.Trans(t, c.Fill("in 2;out 2;states 2;initial 0 one;final 1 one;arc 0 1 1 1 w0;arc 0 1 2 1 w1", 0))
		expect(t, c.Line, x, y, want)
		expect(t, c.Line+", normal", samples.NormalTrans(t, x), samples.NormalTrans(t, y), want)
		// The sum of the arcs of one transducer comes before the product.
		x = samples.Trans(t, c.Fill("in 1;out 1;states 1;initial 0 one;final 0 one;arc 0 1 1 0 w0;arc 0 1 1 0 w1;arc 0 1 1 0 w2", 0))
		y = samples.Trans(t, c.Fill("in 1;out 1;states 1;initial 0 one;final 0 one;arc 0 1 1 0 w1;arc 0 1 1 0 w0", 0))
		out := composed(t, x, y)
		w := semiring.Times(x.Ring, samples.NormalTrans(t, x).Arcs[0].Weight, samples.NormalTrans(t, y).Arcs[0].Weight)
		if len(out.Arcs) != 1 || !semiring.Equal(out.Arcs[0].Weight, w) {
			t.Errorf("%s: %s", c.Line, samples.ShownTrans(out))
		}
	}
}
