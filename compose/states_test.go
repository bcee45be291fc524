package compose_test

import (
	"slices"
	"strconv"
	"strings"
	"testing"

	"weighted/api"
	"weighted/samples"
	"weighted/semiring"
)

// expectFinals checks the Finals of a composition, which tell by their factors of which states its states are made.
func expectFinals(t *testing.T, what string, x, y api.Trans, want string) {
	t.Helper()
	expectLiteral(t, what, x, y)
	for range 2 {
		var got []string
		for _, w := range composed(t, x, y).Final {
			got = append(got, semiring.Format(x.Ring, w))
		}
		if strings.Join(got, " ") != want {
			t.Errorf("%s: %s, not %s", what, got, want)
		}
		// The order of arcs makes no difference.
		slices.Reverse(x.Arcs)
		slices.Reverse(y.Arcs)
	}
}

func TestNumbersOfStates(t *testing.T) {
	const first = "ring rational;in 2;out 3;states 3;final 0 2;final 1 3;final 2 5;"
	const second = "ring rational;in 3;out 2;states 3;final 0 7;final 1 11;final 2 13;"
	for _, x := range []struct{ what, first, second, want string }{
		{"all are at the start", "initial 0 1;initial 1 1;initial 2 1", "initial 0 1;initial 1 1;initial 2 1", "14 22 26 21 33 39 35 55 65"},
		{"some are at the start", "initial 2 1;initial 0 1", "initial 1 1;initial 2 -1", "22 26 55 65"},
		{"one is at the start, and arcs lead nowhere", "initial 1 1;arc 1 1 1 0 1", "initial 2 1;arc 2 2 1 0 1;arc 0 1 1 2 1", "39"},
		{"states behind the start, in ascending order", "initial 1 1;arc 1 1 1 2 1;arc 1 2 2 0 1;arc 1 1 3 1 1", "initial 2 1;arc 2 1 1 0 1;arc 2 2 1 1 1;arc 2 3 1 1 1", "39 22 33 35"},
		{"the same, and a start behind", "initial 1 1;initial 2 1;arc 1 1 1 2 1;arc 1 2 2 0 1;arc 1 1 3 1 1", "initial 2 1;arc 2 1 1 0 1;arc 2 2 1 1 1;arc 2 3 1 1 1", "39 65 22 33 35"},
		{"the second state alone decides", "initial 1 1;arc 1 1 1 1 1", "initial 1 1;arc 1 1 1 2 1;arc 1 1 2 0 1", "33 21 39"},
		{"the last part decides", "initial 1 1;arc 1 1 0 1 1", "initial 1 1;arc 1 0 1 1 1", "33 33 33"},
		// 14 leads to 26, which leads to 65, and to 33, which leads to 21; both are found from 14 first.
		{"wide before deep", "initial 0 1;arc 0 1 1 0 1;arc 0 1 2 1 1;arc 0 2 3 2 1;arc 1 1 3 1 1", "initial 0 1;arc 0 1 1 2 1;arc 0 2 1 1 1;arc 2 3 1 2 1;arc 1 3 1 0 1", "14 26 33 65 21"},
		{"each from the first from which it is found", "initial 0 1;arc 0 1 1 1 1;arc 0 1 2 2 1;arc 1 1 1 0 1;arc 2 1 1 0 1;arc 2 1 2 1 1", "initial 0 1;arc 0 1 1 1 1;arc 0 2 1 1 1;arc 1 1 1 2 1;arc 1 2 1 0 1", "14 33 55 26 21 22 39 35"},
		{"a cycle", "initial 2 1;arc 2 1 1 1 1;arc 1 1 1 0 1;arc 0 1 1 2 1", "initial 1 1;arc 1 1 1 1 1", "55 33 22"},
		{"cycles of lengths 3 and 2", "initial 2 1;arc 2 1 1 1 1;arc 1 1 1 0 1;arc 0 1 1 2 1", "initial 1 1;arc 1 1 1 0 1;arc 0 1 1 1 1", "55 21 22 35 33 14"},
		{"first alone, both and both empty", "initial 0 1;arc 0 1 0 1 1;arc 0 1 1 1 1", "initial 0 1;arc 0 0 1 1 1;arc 0 1 1 0 1", "14 22 21 21 33 33"},
	} {
		expectFinals(t, x.what, samples.Trans(t, first+x.first), samples.Trans(t, second+x.second), x.want)
	}
}

func TestStatesThatAreLeftOut(t *testing.T) {
	const first = "ring rational;in 2;out 3;states 3;"
	const second = "ring rational;in 3;out 2;states 3;"
	for _, x := range []struct{ what, first, second, want string }{
		{"no end", "initial 0 1;final 2 1;arc 0 1 1 1 1", "initial 0 1;final 0 1;final 1 1;final 2 1;arc 0 1 1 1 1", ""},
		{"no start", "initial 0 1;final 1 1;arc 0 1 1 1 1", "final 1 1;arc 0 1 1 1 1", ""},
		{"a start from which no end is reached", "initial 0 1;initial 1 1;final 1 3", "initial 0 1;initial 1 1;final 1 11", "33"},
		{"a start that others reach", "initial 0 1;initial 1 1;final 1 3;arc 0 1 1 1 1", "initial 0 1;final 0 7;arc 0 1 1 0 1", "0 21"},
		{"the others keep their order", "initial 0 1;final 1 3;final 2 5;arc 0 1 1 2 1;arc 0 1 2 1 1;arc 0 1 2 0 1;arc 0 1 3 0 1", "initial 0 1;final 0 7;final 2 13;arc 0 2 1 1 1;arc 0 1 1 2 1;arc 0 3 1 2 1;arc 2 3 1 0 1;arc 1 3 1 0 1;arc 2 1 1 0 1;arc 2 2 2 2 1", "0 0 0 65 39 35"},
		{"a cycle from which no end is reached", "initial 0 1;final 0 2;arc 0 1 1 1 1;arc 1 1 1 2 1;arc 2 1 1 1 1", "initial 0 1;final 0 7;arc 0 1 1 0 1", "14"},
		{"a cycle that is not reached", "initial 0 1;final 0 2;arc 1 1 1 2 1;arc 2 1 1 1 1;arc 2 1 1 0 1", "initial 0 1;final 0 7;arc 0 1 1 0 1", "14"},
		{"first alone where second alone is needed", "initial 0 1;final 1 3;arc 0 1 0 1 1", "initial 0 1;final 2 13;arc 0 0 1 1 1;arc 1 0 1 2 1", "0 0 39"},
	} {
		expectFinals(t, x.what, samples.Trans(t, first+x.first), samples.Trans(t, second+x.second), x.want)
	}
}

func TestArcsThatFindStatesWithoutBeingThere(t *testing.T) {
	// The arcs from (0, 0, 0) to (1, 1, 0) have the sum Zero, so that the result has none. But each of them finds it, before (2, 1, 0), from which an arc leads to it.
	y := samples.Trans(t, "ring rational;in 1;out 3;states 3;initial 0 1;final 1 1;arc 0 1 1 1 1;arc 0 1 2 1 1;arc 0 1 3 2 1;arc 2 1 1 1 1")
	z := samples.Trans(t, "ring rational;in 3;out 1;states 2;initial 0 1;final 1 1;arc 0 1 1 1 1;arc 0 2 1 1 -1;arc 0 3 1 1 1;arc 1 1 1 1 5")
	expect(t, "a sum that is Zero", y, z, samples.Trans(t, "ring rational;in 1;out 1;states 3;initial 0 1;final 1 1;arc 0 1 1 2 1;arc 2 1 1 1 5"))
	// An arc whose weight is Zero itself finds nothing.
	y = samples.Trans(t, "ring sets;in 1;out 3;states 3;initial 0 00000000000000ff;final 1 00000000000000ff;arc 0 1 1 1 00000000000000f0;arc 0 1 3 2 00000000000000ff;arc 2 1 1 1 00000000000000ff")
	z = samples.Trans(t, "ring sets;in 3;out 1;states 2;initial 0 00000000000000ff;final 1 00000000000000ff;arc 0 1 1 1 000000000000000f;arc 0 3 1 1 00000000000000ff;arc 1 1 1 1 000000000000000f")
	expect(t, "a product that is Zero", y, z, samples.Trans(t, "ring sets;in 1;out 1;states 3;initial 0 00000000000000ff;final 2 00000000000000ff;arc 0 1 1 1 00000000000000ff;arc 1 1 1 2 000000000000000f"))
}

// looped returns a transducer whose states have these weights at the start and at the end, and a loop each that has an empty label on one side.
func looped(r api.Ring, initial, final []api.Weight, in, out int) api.Trans {
	x := api.Trans{Ring: r, In: 1, Out: 1, States: len(initial), Initial: initial, Final: final}
	for i := range initial {
		x.Arcs = append(x.Arcs, api.TArc{From: i, In: in, Out: out, To: i, Weight: semiring.One(r)})
	}
	return x
}

func TestArcsThatLeadToTheEndWithoutBeingThere(t *testing.T) {
	// The end is reached from (0, 0, 0), but from (2, 1, 0) only by arcs whose sum is Zero.
	y := samples.Trans(t, "ring rational;in 1;out 3;states 3;initial 0 1;final 1 1;arc 0 1 1 1 1;arc 0 1 3 2 1;arc 2 1 1 1 1;arc 2 1 2 1 1")
	z := samples.Trans(t, "ring rational;in 3;out 1;states 2;initial 0 1;final 1 1;arc 0 1 1 1 1;arc 0 3 1 1 1;arc 1 1 1 1 5;arc 1 2 1 1 -5")
	expect(t, "a sum that is Zero", y, z, samples.Trans(t, "ring rational;in 1;out 1;states 2;initial 0 1;final 1 1;arc 0 1 1 1 1"))
}

func TestManyStatesFoundFromOne(t *testing.T) {
	// From one state, the same two states are found with several last parts.
	for _, c := range samples.Cases() {
		for _, n := range []int{3, 7, 15} {
			text := "in 1;out 1;states " + strconv.Itoa(n) + ";initial 0 one"
			for i := range n {
				at := strconv.Itoa((i*4 + 3) % n)
				text += ";final " + at + " one;arc 0 1 1 " + at + " w1;arc 0 1 0 " + at + " one"
			}
			x := samples.Trans(t, c.Fill(text, 0))
			y := samples.Trans(t, c.Fill("in 1;out 1;states 1;initial 0 one;final 0 one;arc 0 1 1 0 one;arc 0 0 1 0 one", 0))
			_, out := expectLiteral(t, c.Line, x, y)
			_, turned := expectLiteral(t, c.Line+", turned", samples.Turned(y), samples.Turned(x))
			if out.States < 2*n || turned.States != out.States {
				t.Errorf("%s: %d states and %d", c.Line, out.States, turned.States)
			}
		}
	}
}

func TestWeightsAtTheEnds(t *testing.T) {
	for _, c := range samples.Cases() {
		r, weights := c.Ring(t), c.Weights(t)
		zero, one := semiring.Zero(r), semiring.One(r)
		ones := slices.Repeat([]api.Weight{one}, len(weights))
		// All pairs of weights at the start: those whose product is Zero are not found.
		var want []api.Weight
		for _, v := range weights {
			for _, w := range weights {
				if x := semiring.Times(r, v, w); !semiring.Equal(x, zero) {
					want = append(want, x)
				}
			}
		}
		half := len(weights) / 2
		var got []api.Weight
		for _, v := range [][]api.Weight{weights[:half], weights[half:]} {
			for k := range weights {
				out := composed(t, looped(r, v, ones[:len(v)], 1, 1), looped(r, weights[k:k+1], ones[:1], 1, 1))
				got = append(got, out.Initial...)
			}
		}
		byText := func(x, y api.Weight) int { return strings.Compare(semiring.Format(r, x), semiring.Format(r, y)) }
		slices.SortFunc(got, byText)
		slices.SortFunc(want, byText)
		if !slices.EqualFunc(got, want, semiring.Equal) {
			t.Errorf("%s: other products at the start", c.Line)
		}
		// All pairs at the end, which are the same however a state is reached.
		for _, v := range weights {
			for _, w := range weights {
				x, y := looped(r, ones[:1], []api.Weight{v}, 1, 0), looped(r, ones[:1], []api.Weight{w}, 0, 1)
				out, end := composed(t, x, y), semiring.Times(r, v, w)
				want := api.Trans{Ring: r, In: 1, Out: 1}
				if !semiring.Equal(end, zero) {
					want.States, want.Initial, want.Final = 3, []api.Weight{one, zero, zero}, []api.Weight{end, end, end}
					want.Arcs = []api.TArc{{Out: 1, To: 2, Weight: one}, {In: 1, To: 1, Weight: one}, {In: 1, Out: 1, Weight: one}, {From: 1, In: 1, To: 1, Weight: one}, {From: 2, Out: 1, To: 2, Weight: one}}
				}
				if !samples.SameTrans(out, want) {
					t.Fatalf("%s: %s, not %s", c.Line, samples.ShownTrans(out), samples.ShownTrans(want))
				}
			}
		}
	}
}
