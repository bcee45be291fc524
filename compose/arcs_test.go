package compose_test

import (
	"slices"
	"strconv"
	"strings"
	"testing"

	"weighted/samples"
)

// way returns the text of a transducer whose first state is the start and whose last one is the end. Its arcs are separated by commas.
func way(in, out, states int, arcs string) string {
	text := "in " + strconv.Itoa(in) + ";out " + strconv.Itoa(out) + ";states " + strconv.Itoa(states)
	if states > 0 {
		text += ";initial 0 one;final " + strconv.Itoa(states-1) + " one"
	}
	for _, arc := range strings.Split(arcs, ",") {
		if arc != "" {
			text += ";arc " + strings.TrimSpace(arc)
		}
	}
	return text
}

func TestArcsByHand(t *testing.T) {
	for _, x := range []struct {
		what        string
		m           int
		first       string
		n           int
		second      string
		states      int
		composition string
	}{
		{"both", 2, "0 1 3 1 w0", 2, "0 3 2 1 one", 2, "0 1 2 1 w0"},
		{"both, no input", 2, "0 0 3 1 w0", 2, "0 3 2 1 one", 2, "0 0 2 1 w0"},
		{"both, no output", 2, "0 1 3 1 w0", 2, "0 3 0 1 one", 2, "0 1 0 1 w0"},
		{"both, neither", 2, "0 0 3 1 w0", 2, "0 3 0 1 one", 2, "0 0 0 1 w0"},
		{"both with different labels", 2, "0 1 3 1 w0", 2, "0 2 2 1 one", 0, ""},
		{"both with one empty label", 2, "0 1 0 1 w0", 2, "0 1 2 1 one", 0, ""},
		{"both with the other empty label", 2, "0 1 1 1 w0", 2, "0 0 2 1 one", 0, ""},
		{"both, a label of the outside", 2, "0 3 1 1 w0", 2, "0 2 3 1 one", 0, ""},
		{"both twice", 3, "0 1 3 1 w0, 1 2 2 2 w1", 3, "0 3 2 1 one, 1 2 1 2 one", 3, "0 1 2 1 w0, 1 2 1 2 w1"},
		{"both empty", 2, "0 1 0 1 w0", 2, "0 0 2 1 one", 2, "0 1 2 1 w0"},
		{"both empty, all empty", 2, "0 0 0 1 w0", 2, "0 0 0 1 one", 2, "0 0 0 1 w0"},
		{"both empty twice", 3, "0 1 0 1 w0, 1 2 0 2 w1", 3, "0 0 2 1 one, 1 0 1 2 one", 3, "0 1 2 1 w0, 1 2 1 2 w1"},
		{"first alone", 2, "0 1 0 1 w0", 1, "", 2, "0 1 0 1 w0"},
		{"first alone without input", 2, "0 0 0 1 w0", 1, "", 2, "0 0 0 1 w0"},
		{"first alone with a label", 2, "0 1 1 1 w0", 1, "", 0, ""},
		{"first alone twice", 3, "0 1 0 1 w0, 1 2 0 2 w1", 1, "", 3, "0 1 0 1 w0, 1 2 0 2 w1"},
		{"second alone", 1, "", 2, "0 0 2 1 w0", 2, "0 0 2 1 w0"},
		{"second alone without output", 1, "", 2, "0 0 0 1 w0", 2, "0 0 0 1 w0"},
		{"second alone with a label", 1, "", 2, "0 2 2 1 w0", 0, ""},
		{"second alone twice", 1, "", 3, "0 0 2 1 w0, 1 0 1 2 w1", 3, "0 0 2 1 w0, 1 0 1 2 w1"},
		{"both behind first alone", 3, "0 1 0 1 w0, 1 2 3 2 w1", 2, "0 3 1 1 one", 3, "0 1 0 1 w0, 1 2 1 2 w1"},
		{"both behind second alone", 2, "0 2 3 1 w0", 3, "0 0 1 1 one, 1 3 2 2 one", 3, "0 0 1 1 one, 1 2 2 2 w0"},
		{"second alone behind both empty", 2, "0 1 0 1 w0", 3, "0 0 1 1 one, 1 0 2 2 one", 3, "0 1 1 1 w0, 1 0 2 2 one"},
		{"first alone behind both empty", 3, "0 1 0 1 w0, 1 2 0 2 w1", 2, "0 0 2 1 one", 3, "0 1 2 1 w0, 1 2 0 2 w1"},
		{"first alone behind both", 3, "0 1 1 1 w0, 1 2 0 2 w1", 2, "0 1 2 1 one", 3, "0 1 2 1 w0, 1 2 0 2 w1"},
		{"second alone behind both", 2, "0 1 1 1 w0", 3, "0 1 2 1 one, 1 0 1 2 one", 3, "0 1 2 1 w0, 1 0 1 2 one"},
		{"both empty behind both behind first alone", 4, "0 1 0 1 w0, 1 1 1 2 w1, 2 2 0 3 w2", 3, "0 1 1 1 one, 1 0 2 2 one", 4, "0 1 0 1 w0, 1 1 1 2 w1, 2 2 2 3 w2"},
		{"both empty behind both behind second alone", 3, "0 1 1 1 w1, 1 2 0 2 w2", 4, "0 0 1 1 w0, 1 1 1 2 one, 2 0 2 3 one", 4, "0 0 1 1 w0, 1 1 1 2 w1, 2 2 2 3 w2"},
		{"second alone behind both behind first alone", 3, "0 1 0 1 w0, 1 1 1 2 w1", 3, "0 1 1 1 one, 1 0 2 2 one", 4, "0 1 0 1 w0, 1 1 1 2 w1, 2 0 2 3 one"},
		{"first alone behind both behind second alone", 3, "0 1 1 1 w0, 1 2 0 2 w1", 3, "0 0 1 1 one, 1 1 1 2 one", 4, "0 0 1 1 one, 1 1 1 2 w0, 2 2 0 3 w1"},
		{"both empty, then both", 3, "0 1 0 1 w0, 1 2 3 2 w1", 3, "0 0 2 1 one, 1 3 1 2 one", 3, "0 1 2 1 w0, 1 2 1 2 w1"},
		{"loops on both sides", 1, "0 1 0 0 w0", 1, "0 0 2 0 one", 3, "0 1 2 0 w0, 0 1 0 1 w0, 0 0 2 2 one, 1 1 0 1 w0, 2 0 2 2 one"},
		{"loops of all kinds", 1, "0 1 0 0 w0, 0 2 3 0 w1", 1, "0 0 2 0 one, 0 3 1 0 one", 3,
			"0 1 2 0 w0, 0 1 0 1 w0, 0 0 2 2 one, 0 2 1 0 w1, 1 1 0 1 w0, 1 2 1 0 w1, 2 0 2 2 one, 2 2 1 0 w1"},
		{"no states on the left", 0, "", 2, "0 0 2 1 one", 0, ""},
		{"no states on the right", 2, "0 1 0 1 one", 0, "", 0, ""},
		{"no states", 0, "", 0, "", 0, ""},
	} {
		for _, c := range samples.Cases() {
			for shift := range 3 {
				y, z := samples.Trans(t, c.Fill(way(3, 3, x.m, x.first), shift)), samples.Trans(t, c.Fill(way(3, 3, x.n, x.second), shift))
				want := samples.Trans(t, c.Fill(way(3, 3, x.states, x.composition), shift))
				if x.m*x.n == 1 {
					// Whatever happened last, the end is reached.
					want.Final = slices.Repeat(want.Initial[:1], want.States)
				}
				want = samples.NormalTrans(t, want)
				expect(t, c.Line+": "+x.what, y, z, want)
				expectLiteral(t, c.Line+": "+x.what, y, z)
			}
		}
	}
}

// byHand are compositions with numbers on both sides.
func byHand() []struct{ first, second, want string } {
	return []struct{ first, second, want string }{
		// The products of all weights.
		{"ring rational;in 1;out 1;states 2;initial 0 1/2;final 1 1/3;arc 0 1 1 1 1/5", "ring rational;in 1;out 1;states 2;initial 0 1/7;final 1 1/11;arc 0 1 1 1 1/13", "ring rational;in 1;out 1;states 2;initial 0 1/14;final 1 1/33;arc 0 1 1 1 1/65"},
		{"ring tropical;in 1;out 1;states 2;initial 0 2;final 1 3;arc 0 1 0 1 5", "ring tropical;in 1;out 1;states 2;initial 0 7;final 1 11;arc 0 0 1 1 13", "ring tropical;in 1;out 1;states 2;initial 0 9;final 1 14;arc 0 1 1 1 18"},
		{"ring viterbi;in 1;out 1;states 2;initial 0 1/2;final 1 1/3;arc 0 1 1 1 1/5", "ring viterbi;in 1;out 1;states 2;initial 0 1/7;final 1 1;arc 0 1 1 1 1/13", "ring viterbi;in 1;out 1;states 2;initial 0 1/14;final 1 1/3;arc 0 1 1 1 1/65"},
		{"ring sets;in 1;out 1;states 2;initial 0 00000000000000ff;final 1 0000000000000f0f;arc 0 1 1 1 ff00000000000000", "ring sets;in 1;out 1;states 2;initial 0 0000000000000ff0;final 1 00000000000000ff;arc 0 1 1 1 0f00000000000001", "ring sets;in 1;out 1;states 2;initial 0 00000000000000f0;final 1 000000000000000f;arc 0 1 1 1 0f00000000000000"},
		{"ring polynomial;in 1;out 1;states 2;initial 0 a;final 1 b;arc 0 1 1 1 a+1", "ring polynomial;in 1;out 1;states 2;initial 0 c;final 1 1/2;arc 0 1 1 1 a-1", "ring polynomial;in 1;out 1;states 2;initial 0 a*c;final 1 1/2*b;arc 0 1 1 1 a^2-1"},
		{"ring product rational tropical;in 1;out 1;states 2;initial 0 2|2;final 1 3|3;arc 0 1 1 1 5|5", "ring product rational tropical;in 1;out 1;states 2;initial 0 7|7;final 1 1/3|inf;arc 0 1 1 1 1/5|13", "ring product rational tropical;in 1;out 1;states 2;initial 0 14|9;final 1 1|inf;arc 0 1 1 1 1|18"},
		// Weights that are written in other ways, as several arcs in any order.
		{"ring rational;in 1;out 1;states 2;initial 0 3/6;final 1 -0;final 0 2;arc 1 1 1 0 6/4;arc 0 1 1 1 2/12;arc 1 1 0 0 7;arc 0 1 1 1 1/3;arc 1 1 0 0 -14/2", "ring rational;in 1;out 1;states 1;initial 0 10/5;final 0 9/3;arc 0 1 1 0 -4/8;arc 0 1 1 0 0/5;arc 0 1 1 0 1", "ring rational;in 1;out 1;states 2;initial 0 1;final 0 6;arc 0 1 1 1 1/4;arc 1 1 1 0 3/4"},
		// Arcs with the same ends and labels, from different labels in the middle, and from an empty one.
		{"ring rational;in 1;out 3;states 2;initial 0 1;final 1 1;arc 0 1 1 1 2;arc 0 1 2 1 3;arc 0 1 3 1 5", "ring rational;in 3;out 1;states 2;initial 0 1;final 1 1;arc 0 1 1 1 7;arc 0 2 1 1 11;arc 0 3 1 1 13", "ring rational;in 1;out 1;states 2;initial 0 1;final 1 1;arc 0 1 1 1 112"},
		{"ring rational;in 1;out 3;states 2;initial 0 1;final 1 1;arc 0 1 1 1 2;arc 0 1 0 1 3;arc 0 1 3 1 5", "ring rational;in 3;out 1;states 2;initial 0 1;final 1 1;arc 0 1 1 1 7;arc 0 0 1 1 11;arc 0 3 1 1 13", "ring rational;in 1;out 1;states 2;initial 0 1;final 1 1;arc 0 1 1 1 112"},
		{"ring tropical;in 1;out 3;states 2;initial 0 0;final 1 0;arc 0 1 1 1 2;arc 0 1 2 1 3;arc 0 1 3 1 5", "ring tropical;in 3;out 1;states 2;initial 0 0;final 1 0;arc 0 1 1 1 7;arc 0 2 1 1 1;arc 0 3 1 1 13", "ring tropical;in 1;out 1;states 2;initial 0 0;final 1 0;arc 0 1 1 1 4"},
		{"ring rational;in 2;out 2;states 1;initial 0 1;final 0 1;arc 0 1 1 0 2;arc 0 1 2 0 3;arc 0 2 1 0 5;arc 0 2 2 0 7", "ring rational;in 2;out 2;states 1;initial 0 1;final 0 1;arc 0 1 1 0 1/2;arc 0 1 2 0 1/3;arc 0 2 1 0 1/5;arc 0 2 2 0 1/7", "ring rational;in 2;out 2;states 1;initial 0 1;final 0 1;arc 0 1 1 0 8/5;arc 0 1 2 0 23/21;arc 0 2 1 0 39/10;arc 0 2 2 0 8/3"},
		// Once the first transducer has gone on alone, the empty label in the middle adds nothing to the sum of both.
		{"ring rational;in 1;out 1;states 2;initial 0 1;final 1 1;arc 0 1 0 0 2;arc 0 1 0 1 3;arc 0 1 1 1 5", "ring rational;in 1;out 1;states 2;initial 0 1;final 1 1;arc 0 0 1 1 7;arc 0 1 1 1 11", "ring rational;in 1;out 1;states 6;initial 0 1;final 3 1;final 5 1;arc 0 1 0 1 2;arc 0 1 1 2 14;arc 0 1 1 3 76;arc 1 1 0 1 2;arc 1 1 1 3 55;arc 2 1 0 4 2;arc 2 1 0 5 3;arc 4 1 0 4 2;arc 4 1 0 5 3"},
		// Sums that are Zero.
		{"ring rational;in 1;out 2;states 2;initial 0 1;final 1 1;arc 0 1 1 1 2;arc 0 1 2 1 3", "ring rational;in 2;out 1;states 2;initial 0 1;final 1 1;arc 0 1 1 1 3;arc 0 2 1 1 -2", "ring rational;in 1;out 1;states 0"},
		{"ring rational;in 1;out 2;states 2;initial 0 1;final 1 1;arc 0 1 1 1 2;arc 0 1 0 1 3", "ring rational;in 2;out 1;states 2;initial 0 1;final 1 1;arc 0 1 1 1 3;arc 0 0 1 1 -2", "ring rational;in 1;out 1;states 0"},
		{"ring rational;in 1;out 2;states 2;initial 0 1;final 1 1;arc 0 1 1 1 2;arc 0 1 2 1 3", "ring rational;in 2;out 2;states 2;initial 0 1;final 1 1;arc 0 1 1 1 3;arc 0 2 1 1 -2;arc 0 1 2 1 1", "ring rational;in 1;out 2;states 2;initial 0 1;final 1 1;arc 0 1 2 1 2"},
	}
}

func TestCompositionsByHand(t *testing.T) {
	for _, x := range byHand() {
		y, z := samples.Trans(t, x.first), samples.Trans(t, x.second)
		expect(t, x.first+" and "+x.second, y, z, samples.Trans(t, x.want))
		expectLiteral(t, x.first, y, z)
	}
}
