package project_test

import (
	"math/rand"
	"slices"
	"strings"
	"testing"

	"weighted/api"
	"weighted/epsilon"
	"weighted/samples"
	"weighted/semiring"
	"weighted/weigh"
)

func TestExample(t *testing.T) {
	for _, c := range samples.Cases() {
		for shift := range 3 {
			x := samples.Trans(t, c.Fill("in 1;out 3;states 2;initial 0 one;final 1 one;arc 0 1 2 1 w0;arc 0 1 3 1 w1", shift))
			want := samples.Model(t, c.Fill("symbols a;states 2;initial 0 one;final 1 one;arc 0 a 1 w0;arc 0 a 1 w1", shift))
			sum := semiring.Plus(x.Ring, x.Arcs[0].Weight, x.Arcs[1].Weight)
			got := input(t, x)
			samples.Expect(t, c.Line, got, samples.Normal(t, want))
			if len(got.Arcs) != 1 || !semiring.Equal(got.Arcs[0].Weight, sum) {
				t.Errorf("%s: %s", c.Line, samples.Shown(got))
			}
		}
	}
	x := samples.Trans(t, "ring rational;in 1;out 3;states 2;initial 0 1;final 1 1;arc 0 1 2 1 1/2;arc 0 1 3 1 1/3")
	samples.Expect(t, "the example", input(t, x), samples.Model(t, "ring rational;symbols a;states 2;initial 0 1;final 1 1;arc 0 a 1 5/6"))
	samples.Expect(t, "its output", output(t, x), samples.Model(t, "ring rational;symbols a b c;states 2;initial 0 1;final 1 1;arc 0 b 1 1/2;arc 0 c 1 1/3"))
}

// arcsOf returns the text of a model of three states with arcs that are separated by commas.
func arcsOf(head, arcs string) string {
	text := head + ";states 3"
	for _, arc := range strings.Split(arcs, ",") {
		if arc != "" {
			text += ";arc " + strings.TrimSpace(arc)
		}
	}
	return text
}

func TestSidesByHand(t *testing.T) {
	for _, x := range []struct{ arcs, in, out string }{
		{"", "", ""},
		{"0 1 3 1 5", "0 a 1 5", "0 c 1 5"},
		// An empty label stays, wherever the other one is.
		{"0 0 3 1 5", "0 - 1 5", "0 c 1 5"},
		{"0 2 0 1 5", "0 b 1 5", "0 - 1 5"},
		{"0 0 0 1 5", "0 - 1 5", "0 - 1 5"},
		{"1 0 0 1 5", "1 - 1 5", "1 - 1 5"},
		// Arcs become one because the other label is left out.
		{"0 1 1 1 2, 0 1 2 1 3", "0 a 1 5", "0 a 1 2, 0 b 1 3"},
		{"0 1 1 1 2, 0 2 1 1 3", "0 a 1 2, 0 b 1 3", "0 a 1 5"},
		{"0 1 0 1 2, 0 1 2 1 3, 0 1 3 1 7", "0 a 1 12", "0 - 1 2, 0 b 1 3, 0 c 1 7"},
		{"0 0 0 1 2, 0 0 2 1 3, 0 2 0 1 7", "0 - 1 5, 0 b 1 7", "0 - 1 9, 0 b 1 3"},
		{"0 1 1 1 2, 0 1 1 1 3", "0 a 1 5", "0 a 1 5"},
		{"0 1 1 1 2, 0 1 1 1 3, 0 1 2 1 1/2", "0 a 1 11/2", "0 a 1 5, 0 b 1 1/2"},
		// Their sum is Zero on one side, on the other one, or on both.
		{"0 1 1 1 2, 0 1 2 1 -2", "", "0 a 1 2, 0 b 1 -2"},
		{"0 1 1 1 2, 0 2 1 1 -2", "0 a 1 2, 0 b 1 -2", ""},
		{"0 1 1 1 2, 0 1 2 1 -2, 0 2 1 1 -2, 0 2 2 1 2", "", ""},
		{"0 1 1 1 2, 0 1 1 1 -2", "", ""},
		{"0 0 0 1 2, 0 0 1 1 -2, 0 1 0 1 3", "0 a 1 3", "0 - 1 5, 0 a 1 -2"},
		{"0 1 1 1 2, 0 1 2 1 3, 0 1 3 1 -5", "", "0 a 1 2, 0 b 1 3, 0 c 1 -5"},
		{"0 1 1 1 1/2, 0 1 2 1 1/3, 0 1 3 1 1/6", "0 a 1 1", "0 a 1 1/2, 0 b 1 1/3, 0 c 1 1/6"},
		// An arc that is Zero.
		{"0 1 1 1 0, 1 2 2 2 1", "1 b 2 1", "1 b 2 1"},
		// Arcs with other ends stay apart.
		{"0 1 1 1 2, 0 1 2 2 3, 1 1 3 1 5", "0 a 1 2, 0 a 2 3, 1 a 1 5", "0 a 1 2, 0 b 2 3, 1 c 1 5"},
		{"0 1 1 1 2, 1 1 2 0 -2", "0 a 1 2, 1 a 0 -2", "0 a 1 2, 1 b 0 -2"},
		// The order is that of the labels that stay.
		{"0 1 3 2 2, 0 2 1 1 3", "0 a 2 2, 0 b 1 3", "0 a 1 3, 0 c 2 2"},
		{"0 0 3 2 2, 0 1 2 1 3, 0 2 1 0 5, 1 1 0 0 7", "0 - 2 2, 0 a 1 3, 0 b 0 5, 1 a 0 7", "0 a 0 5, 0 b 1 3, 0 c 2 2, 1 - 0 7"},
		{"0 1 3 2 2, 0 1 3 0 3, 0 2 3 1 5", "0 a 0 3, 0 a 2 2, 0 b 1 5", "0 c 0 3, 0 c 1 5, 0 c 2 2"},
		{"0 1 1 2 2, 0 1 2 1 3", "0 a 1 3, 0 a 2 2", "0 a 2 2, 0 b 1 3"},
	} {
		given := samples.Trans(t, arcsOf("ring rational;in 2;out 3", x.arcs))
		in, out := samples.Model(t, arcsOf("ring rational;symbols a b", x.in)), samples.Model(t, arcsOf("ring rational;symbols a b c", x.out))
		for range 2 {
			samples.Expect(t, "Input of "+x.arcs, input(t, given), in)
			samples.Expect(t, "Output of "+x.arcs, output(t, given), out)
			expectSides(t, x.arcs, given)
			slices.Reverse(given.Arcs)
		}
	}
}

func TestSidesByHandOverOtherRings(t *testing.T) {
	for _, x := range []struct{ head, arcs, in, out string }{
		{"ring tropical", "0 1 1 1 5, 0 1 2 1 3, 0 1 3 1 inf", "0 a 1 3", "0 a 1 5, 0 b 1 3"},
		{"ring tropical", "0 0 1 1 1099511627776, 0 2 1 1 inf", "0 - 1 1099511627776", "0 a 1 1099511627776"},
		{"ring viterbi", "0 1 1 1 1/2, 0 1 2 1 1/3, 0 2 2 1 1", "0 a 1 1/2, 0 b 1 1", "0 a 1 1/2, 0 b 1 1"},
		{"ring sets", "0 1 1 1 00000000000000f0, 0 1 2 1 000000000000000f", "0 a 1 00000000000000ff", "0 a 1 00000000000000f0, 0 b 1 000000000000000f"},
		{"ring polynomial", "0 1 1 1 a+1, 0 1 2 1 -a, 0 2 1 1 -a-1", "0 a 1 1, 0 b 1 -a-1", "0 b 1 -a"},
	} {
		given := samples.Trans(t, arcsOf(x.head+";in 2;out 3", x.arcs))
		samples.Expect(t, x.head+": Input of "+x.arcs, input(t, given), samples.Model(t, arcsOf(x.head+";symbols a b", x.in)))
		samples.Expect(t, x.head+": Output of "+x.arcs, output(t, given), samples.Model(t, arcsOf(x.head+";symbols a b c", x.out)))
	}
}

func TestSidesOfRandomTransducers(t *testing.T) {
	source := rand.New(rand.NewSource(1))
	for _, c := range samples.Cases() {
		less := 0
		for round := range 40 {
			x := c.RandomTrans(t, source.Intn, 1+source.Intn(4), source.Intn(3*round+2))
			expectSides(t, c.Line, x)
			expectSides(t, c.Line+", shuffled", samples.ShuffledTrans(source.Intn, x))
			n := samples.NormalTrans(t, x)
			expectSides(t, c.Line+", normal", n)
			less += len(n.Arcs) - len(input(t, x).Arcs)
		}
		if less < 100 {
			t.Errorf("%s: only %d arcs become one with others", c.Line, less)
		}
	}
}

func TestSumsThatAreZero(t *testing.T) {
	source := rand.New(rand.NewSource(2))
	for _, c := range samples.Cancelling() {
		gone := 0
		for range 60 {
			x := api.Trans{Ring: c.Ring(t), In: 2, Out: 2, States: 2}
			one := semiring.One(x.Ring)
			x.Initial, x.Final = []api.Weight{one, one}, []api.Weight{one, one}
			ends := map[[3]int]bool{}
			for range source.Intn(30) {
				y := api.TArc{From: source.Intn(2), In: source.Intn(3), Out: source.Intn(3), To: source.Intn(2), Weight: c.Weight(t, c.Others[source.Intn(len(c.Others))])}
				x.Arcs = append(x.Arcs, y)
			}
			for _, y := range samples.NormalTrans(t, x).Arcs {
				ends[[3]int{y.From, y.In, y.To}] = true
			}
			expectSides(t, c.Line, x)
			gone += len(ends) - len(input(t, x).Arcs)
		}
		if gone < 8 {
			t.Errorf("%s: only %d sums are Zero", c.Line, gone)
		}
	}
}

func TestSidesKeepAllElse(t *testing.T) {
	for _, c := range samples.Cases() {
		for states := range api.MaxStates + 1 {
			x := blank(t, c, 1+states%api.MaxSymbols, 1+states*5%api.MaxSymbols, states)
			want := api.Auto{Ring: x.Ring, Symbols: x.In, States: states, Initial: x.Initial, Final: x.Final}
			samples.Expect(t, c.Line+": Input", input(t, x), want)
			want.Symbols = x.Out
			samples.Expect(t, c.Line+": Output", output(t, x), want)
		}
	}
}

// parallel returns a transducer of MaxStates states all of whose arcs, of which there are MaxArcs, lead from one state to another, with so many symbols on each side.
func parallel(r api.Ring, in, out int) api.Trans {
	x := samples.SizedTrans(r, api.MaxStates, 0)
	x.In, x.Out = in, out
	for i := range api.MaxArcs {
		x.Arcs = append(x.Arcs, api.TArc{From: 63, In: i % (in + 1), Out: i / (in + 1) % (out + 1), To: 62, Weight: x.Initial[0]})
	}
	return x
}

func TestLargeTransducers(t *testing.T) {
	for _, c := range samples.Cases() {
		r := c.Ring(t)
		x := samples.SizedTrans(r, api.MaxStates, api.MaxArcs)
		expectSides(t, c.Line, x)
		if in, out := input(t, x), output(t, x); len(in.Arcs) != api.MaxArcs || len(out.Arcs) != api.MaxArcs || in.States != api.MaxStates {
			t.Errorf("%s: %d and %d arcs", c.Line, len(in.Arcs), len(out.Arcs))
		}
		for _, n := range [][2]int{{1, 1}, {1, 32}, {32, 1}, {32, 32}, {31, 32}} {
			x := parallel(r, n[0], n[1])
			expectSides(t, c.Line, x)
			if in, out := input(t, x), output(t, x); len(in.Arcs) != n[0]+1 || len(out.Arcs) != n[1]+1 {
				t.Errorf("%s: %d symbols: %d and %d arcs", c.Line, n, len(in.Arcs), len(out.Arcs))
			}
		}
	}
}

func TestManyDenominators(t *testing.T) {
	// 1/2 + 1/6 + 1/12 + .. + 1/(n * (n + 1)) is n/(n + 1).
	x := samples.Trans(t, "ring rational;in 1;out 32;states 2")
	for n := 1; n <= 32; n++ {
		x.Arcs = append(x.Arcs, api.TArc{In: 1, Out: n, To: 1, Weight: api.Weight{Q: api.Rat{Num: []uint32{1}, Den: []uint32{uint32(n * (n + 1))}}}})
	}
	samples.Expect(t, "Input", input(t, x), samples.Model(t, "ring rational;symbols a;states 2;arc 0 a 1 32/33"))
}

func TestWeightsOfTheSides(t *testing.T) {
	source := rand.New(rand.NewSource(3))
	for _, c := range samples.Cases() {
		others := 0
		for range 15 {
			x := c.Upward(t, source.Intn, 2, 2, 1+source.Intn(3), []string{"one", "w0", "w1", "w2"})
			zero := semiring.Zero(x.Ring)
			for _, y := range []api.Trans{x, samples.Turned(x)} {
				in, e := epsilon.Remove(input(t, y))
				out, f := epsilon.Remove(output(t, samples.Turned(y)))
				if e != api.OK || f != api.OK {
					t.Fatalf("%s: %v, %v: %s", c.Line, e, f, samples.ShownTrans(y))
				}
				for _, word := range samples.Words(t, y.In, 2) {
					sum := zero
					for _, other := range samples.Outputs(y, word) {
						sum = semiring.Plus(y.Ring, sum, samples.PairWeight(t, y, word, other))
					}
					for _, a := range []api.Auto{in, out} {
						if w, e := weigh.Weight(a, word); e != api.OK || !semiring.Equal(w, sum) {
							t.Fatalf("%s: %v has the weight %s, %v: %s", c.Line, word, semiring.Format(y.Ring, w), e, samples.ShownTrans(y))
						}
					}
					if !semiring.Equal(sum, zero) {
						others++
					}
				}
			}
		}
		if others < 50 {
			t.Errorf("%s: only %d sums are not Zero", c.Line, others)
		}
	}
}
