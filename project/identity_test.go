package project_test

import (
	"math/rand"
	"slices"
	"testing"

	"weighted/api"
	"weighted/samples"
	"weighted/semiring"
	"weighted/transducer"
	"weighted/weigh"
)

// expectIdentity checks the Identity of an automaton, and that both of its sides are the normal form.
func expectIdentity(t *testing.T, what string, a api.Auto, want api.Trans) {
	t.Helper()
	got, n := identity(t, a), samples.Normal(t, a)
	samples.ExpectTrans(t, what, got, want)
	samples.Expect(t, what+", Input", input(t, got), n)
	samples.Expect(t, what+", Output", output(t, got), n)
	samples.ExpectTrans(t, what+", Invert", invert(t, got), want)
}

func TestIdentityByHand(t *testing.T) {
	for _, x := range []struct{ arcs, want string }{
		{"", ""},
		{"0 a 1 5", "0 1 1 1 5"},
		{"0 c 0 5", "0 3 3 0 5"},
		// An empty label is empty on both sides.
		{"0 - 1 5", "0 0 0 1 5"},
		{"0 - 0 1/2, 1 - 0 2, 0 - 1 3", "0 0 0 0 1/2, 0 0 0 1 3, 1 0 0 0 2"},
		// Arcs with the same ends and label are one.
		{"0 b 1 2, 0 b 1 3", "0 2 2 1 5"},
		{"0 b 1 2, 0 b 1 -2", ""},
		{"0 b 1 1/2, 1 a 2 0, 0 - 1 1, 0 b 1 1/3, 0 b 1 1/6, 0 - 1 -1", "0 2 2 1 1"},
		// The order is by From, Label and To.
		{"2 a 0 2, 0 c 0 3, 0 b 2 5, 0 b 1 7, 0 - 2 11", "0 0 0 2 11, 0 2 2 1 7, 0 2 2 2 5, 0 3 3 0 3, 2 1 1 0 2"},
		// Weights that are written in other ways.
		{"0 a 1 4/6, 0 b 1 -0, 0 c 1 8/2", "0 1 1 1 2/3, 0 3 3 1 4"},
	} {
		a, want := samples.Model(t, arcsOf("ring rational;symbols a b c", x.arcs)), samples.Trans(t, arcsOf("ring rational;in 3;out 3", x.want))
		a.Initial[1], want.Initial[1] = semiring.One(a.Ring), semiring.One(a.Ring)
		a.Final[2].Q, want.Final[2].Q = api.Rat{Num: []uint32{7}, Den: []uint32{3}}, api.Rat{Num: []uint32{7}, Den: []uint32{3}}
		for range 2 {
			expectIdentity(t, x.arcs, a, want)
			slices.Reverse(a.Arcs)
		}
	}
	a := samples.Model(t, "ring tropical;symbols a b;states 2;initial 0 3;initial 1 inf;final 1 0;arc 0 b 1 5;arc 0 b 1 inf;arc 0 b 1 4;arc 0 - 1 inf;arc 1 a 0 1099511627776")
	expectIdentity(t, "tropical", a, samples.Trans(t, "ring tropical;in 2;out 2;states 2;initial 0 3;final 1 0;arc 0 2 2 1 4;arc 1 1 1 0 1099511627776"))
}

func TestIdentityOfRandomAutomata(t *testing.T) {
	source := rand.New(rand.NewSource(5))
	for _, c := range samples.Cases() {
		for round := range 40 {
			a := c.Random(t, source.Intn, 1+source.Intn(4), source.Intn(2*round+2), round%2 == 0)
			want := samples.NormalTrans(t, samples.Copying(a))
			expectIdentity(t, c.Line, a, want)
			expectIdentity(t, c.Line+", shuffled", samples.Shuffled(source.Intn, a), want)
		}
	}
}

func TestIdentityKeepsAllElse(t *testing.T) {
	for _, c := range samples.Cases() {
		for states := range api.MaxStates + 1 {
			want := blank(t, c, 1+states%api.MaxSymbols, 1+states%api.MaxSymbols, states)
			expectIdentity(t, c.Line, api.Auto{Ring: want.Ring, Symbols: want.In, States: states, Initial: want.Initial, Final: want.Final}, want)
		}
		a := samples.Sized(c.Ring(t), api.MaxStates, api.MaxArcs)
		expectIdentity(t, c.Line, a, samples.NormalTrans(t, samples.Copying(a)))
		a.Arcs = slices.Repeat(a.Arcs[5:6], api.MaxArcs)
		expectIdentity(t, c.Line, a, samples.NormalTrans(t, samples.Copying(a)))
		if n := len(identity(t, a).Arcs); n != 1 {
			t.Errorf("%s: %d arcs", c.Line, n)
		}
	}
}

func TestPairsOfEqualWords(t *testing.T) {
	source := rand.New(rand.NewSource(6))
	for _, c := range samples.Cases() {
		others := 0
		for range 10 {
			a := c.Random(t, source.Intn, 1+source.Intn(3), source.Intn(20), false)
			x := identity(t, a)
			zero := semiring.Zero(a.Ring)
			samples.Pairs(t, x, 3, func(in, out []int) {
				want := zero
				if slices.Equal(in, out) {
					w, e := weigh.Weight(a, in)
					if e != api.OK {
						t.Fatalf("%s: %v: %s", c.Line, e, samples.Shown(a))
					}
					want = w
				}
				samples.ExpectPair(t, c.Line, x, in, out, want)
				if !semiring.Equal(want, zero) {
					others++
				}
			})
		}
		if others < 20 {
			t.Errorf("%s: only %d weights are not Zero", c.Line, others)
		}
	}
}

func TestCyclesOfEmptyLabels(t *testing.T) {
	for _, c := range samples.Cases() {
		for text, want := range map[string]bool{
			"arc 0 - 1 one;arc 1 - 0 one":         true,
			"arc 1 - 1 w0":                        true,
			"arc 0 - 1 one;arc 1 a 0 one":         false,
			"arc 0 - 1 one;gone 1 - 0;gone 0 - 0": false,
		} {
			x := identity(t, samples.Model(t, c.Fill("symbols a;states 2;"+text, 0)))
			if transducer.Loops(x) != want {
				t.Errorf("%s: %s: %s", c.Line, text, samples.ShownTrans(x))
			}
		}
	}
}
