package transducer_test

import (
	"math/rand"
	"strconv"
	"testing"

	"weighted/api"
	"weighted/samples"
	"weighted/semiring"
	"weighted/transducer"
)

// expectLoops checks the answer of Loops, and that Weight fits to it.
func expectLoops(t *testing.T, what string, x api.Trans, want bool) {
	t.Helper()
	if got := transducer.Loops(x); got != want {
		t.Fatalf("%s: Loops is %v: %s", what, got, samples.ShownTrans(x))
	}
	for _, words := range [][2][]int{{nil, nil}, {{1}, nil}, {{0}, {1}}, {{1}, {9}}} {
		w, e := transducer.Weight(x, words[0], words[1])
		if (e == api.ErrEpsilon) != want || want && !semiring.Equal(w, api.Weight{}) {
			t.Fatalf("%s: %v: %v, %v", what, words, w, e)
		}
	}
}

func TestLoops(t *testing.T) {
	for _, x := range []struct {
		arcs string
		want bool
	}{
		{"", false},
		{"arc 0 0 0 0 w0", true},
		{"arc 3 0 0 3 w0", true},
		{"arc 0 0 0 1 w0", false},
		{"arc 0 0 0 1 w0;arc 1 0 0 0 w1", true},
		{"arc 0 0 0 1 w0;arc 1 0 0 2 w1;arc 2 0 0 0 w2", true},
		{"arc 2 0 0 1 w0;arc 1 0 0 0 w1;arc 0 0 0 3 w2;arc 3 0 0 2 w0", true},
		{"arc 2 0 0 1 w0;arc 1 0 0 0 w1;arc 0 0 0 3 w2;arc 2 0 0 3 w0", false},
		// Two ways to the same state are no cycle.
		{"arc 0 0 0 1 w0;arc 0 0 0 2 w1;arc 1 0 0 3 w2;arc 2 0 0 3 w0", false},
		{"arc 0 0 0 1 w0;arc 0 0 0 2 w1;arc 1 0 0 3 w2;arc 2 0 0 3 w0;arc 3 0 0 1 w0", true},
		{"arc 0 0 0 1 w0;arc 0 0 0 1 one;arc 1 0 0 2 w1", false},
		// A label on one side in one place.
		{"arc 0 1 0 0 w0", false},
		{"arc 0 0 1 0 w0", false},
		{"arc 0 1 1 0 w0", false},
		{"arc 0 0 0 1 w0;arc 1 1 0 0 w1", false},
		{"arc 0 0 0 1 w0;arc 1 0 2 0 w1", false},
		{"arc 0 1 0 1 w0;arc 1 0 0 0 w1", false},
		{"arc 0 0 0 1 w0;arc 1 0 0 2 w1;arc 2 0 1 0 w2", false},
		{"arc 0 0 0 1 w0;arc 1 0 0 2 w1;arc 2 0 1 0 w2;arc 2 0 0 0 w2", true},
		{"arc 0 1 0 1 w0;arc 1 0 1 0 w1", false},
		// Cycles that the normal form leaves out.
		{"arc 0 0 0 0 zero", false},
		{"gone 0 0 0 0", false},
		{"arc 0 0 0 1 w0;arc 1 0 0 0 zero", false},
		{"arc 0 0 0 1 w0;gone 1 0 0 0", false},
		{"gone 0 0 0 1;gone 1 0 0 0", false},
		{"arc 0 0 0 1 w0;gone 1 0 0 0;arc 1 0 0 0 w1", true},
		{"arc 0 0 0 1 w0;gone 1 0 0 2;arc 2 0 0 0 w1", false},
		{"arc 0 0 0 1 w0;gone 1 0 0 2;arc 2 0 0 0 w1;arc 2 0 0 2 one", true},
		// States that are not reached, that reach nothing, or both.
		{"initial 0 one;final 0 one;arc 1 0 0 2 w0;arc 2 0 0 1 w1", true},
		{"initial 0 one;final 0 one;arc 0 1 1 1 w0;arc 1 0 0 1 w1", true},
		{"initial 0 one;final 1 one;arc 2 0 0 2 w0;arc 2 1 1 1 w1", true},
		{"initial 0 one;final 1 one;arc 2 0 0 3 w0;arc 2 1 1 1 w1", false},
	} {
		for _, c := range samples.Cases() {
			text := "in 2;out 3;states 4"
			if x.arcs != "" {
				text += ";" + x.arcs
			}
			for shift := range 3 {
				expectLoops(t, c.Line+": "+x.arcs, samples.Trans(t, c.Fill(text, shift)), x.want)
			}
		}
	}
}

func TestLoopsOfProductsThatAreZero(t *testing.T) {
	// The weight of the cycle is Zero, but those of its arcs are not.
	x := samples.Trans(t, "ring product rational rational;in 1;out 1;states 2;arc 0 0 0 1 1|0;arc 1 0 0 0 0|1")
	expectLoops(t, "product", x, true)
	x = samples.Trans(t, "ring sets;in 1;out 1;states 2;arc 0 0 0 1 000000000000000f;arc 1 0 0 0 00000000000000f0")
	expectLoops(t, "sets", x, true)
	x = samples.Trans(t, "ring tropical;in 1;out 1;states 2;arc 0 0 0 1 1099511627776;arc 1 0 0 0 1")
	expectLoops(t, "tropical", x, true)
}

// cycle returns a transducer whose states arcs with two empty labels join to a cycle, or without the last one to a chain, in an order that a list of numbers tells.
func cycle(t *testing.T, c samples.Case, order []int, closed bool) api.Trans {
	t.Helper()
	text := "in 1;out 1;states " + strconv.Itoa(len(order))
	for i, state := range order {
		if closed || i > 0 {
			text += ";arc " + strconv.Itoa(order[(i+len(order)-1)%len(order)]) + " 0 0 " + strconv.Itoa(state) + " w" + strconv.Itoa(i)
		}
	}
	return samples.Trans(t, c.Fill(text, 0))
}

func TestLongCycles(t *testing.T) {
	source := rand.New(rand.NewSource(3))
	for _, c := range samples.Cases() {
		for _, states := range []int{1, 2, 3, 7, 63, 64} {
			order := source.Perm(states)
			expectLoops(t, c.Line, cycle(t, c, order, true), true)
			expectLoops(t, c.Line, cycle(t, c, order, false), false)
		}
	}
}

func TestLoopsOfRandomTransducers(t *testing.T) {
	source := rand.New(rand.NewSource(4))
	seen := map[bool]int{}
	for _, c := range samples.Cases() {
		for range 60 {
			x := c.RandomTrans(t, source.Intn, 1+source.Intn(6), source.Intn(20))
			for range source.Intn(8) {
				x.Arcs = append(x.Arcs, api.TArc{From: source.Intn(x.States), To: source.Intn(x.States), Weight: semiring.One(x.Ring)})
			}
			want := returns(merge(x))
			expectLoops(t, c.Line, x, want)
			expectLoops(t, c.Line+", shuffled", samples.ShuffledTrans(source.Intn, x), want)
			seen[want]++
		}
	}
	if seen[true] < 50 || seen[false] < 50 {
		t.Error(seen)
	}
}

// returns reports whether arcs with two empty labels lead from a state to itself, by joining ways until there are no more.
func returns(n api.Trans) bool {
	var leads [api.MaxStates][api.MaxStates]bool
	for _, x := range n.Arcs {
		if x.In+x.Out == 0 {
			leads[x.From][x.To] = true
		}
	}
	for k := range n.States {
		for i := range n.States {
			for j := range n.States {
				leads[i][j] = leads[i][j] || leads[i][k] && leads[k][j]
			}
		}
	}
	for i := range n.States {
		if leads[i][i] {
			return true
		}
	}
	return false
}
