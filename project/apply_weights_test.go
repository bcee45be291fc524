package project_test

import (
	"math/rand"
	"slices"
	"testing"

	"weighted/api"
	"weighted/epsilon"
	"weighted/samples"
	"weighted/semiring"
	"weighted/weigh"
)

// expectWeights checks that words have the weight in the Apply of a transducer and a word that the transducer gives the pair, and returns how many of these are not Zero.
func expectWeights(t *testing.T, what string, x api.Trans, word []int, others [][]int) int {
	t.Helper()
	a, e := epsilon.Remove(applied(t, x, word))
	if e != api.OK {
		t.Fatalf("%s: %v: %v", what, e, word)
	}
	count := 0
	for _, other := range others {
		w, e := weigh.Weight(a, other)
		if e != api.OK {
			t.Fatalf("%s: %v: %v, %v", what, e, word, other)
		}
		samples.ExpectPair(t, what, x, word, other, w)
		if !semiring.Equal(w, semiring.Zero(x.Ring)) {
			count++
		}
	}
	return count
}

func TestWeightsOfPairs(t *testing.T) {
	source := rand.New(rand.NewSource(10))
	for _, c := range samples.Cases() {
		count := 0
		for range 12 {
			x := c.Upward(t, source.Intn, 2, 2, 1+source.Intn(3), []string{"one", "w0", "w1", "w2"})
			// Arcs that read something may write nothing in a cycle.
			for range source.Intn(3) {
				x.Arcs = append(x.Arcs, api.TArc{From: source.Intn(x.States), In: 1 + source.Intn(2), To: source.Intn(x.States), Weight: x.Arcs[0].Weight})
			}
			for _, word := range samples.Words(t, x.In, 2) {
				// All words that it may write for this one, and those that are short.
				count += expectWeights(t, c.Line, x, word, slices.Concat(samples.Outputs(x, word), samples.Words(t, x.Out, 2)))
			}
		}
		if count < 100 {
			t.Errorf("%s: only %d weights are not Zero", c.Line, count)
		}
	}
}

func TestWeightsOfPairsWithCycles(t *testing.T) {
	// Arcs that read nothing may form a cycle as long as they write something.
	source := rand.New(rand.NewSource(11))
	for _, c := range samples.Cases() {
		count := 0
		for range 10 {
			x := c.RandomTrans(t, source.Intn, 1+source.Intn(3), 12)
			x.Arcs = append(x.Arcs, api.TArc{From: x.States - 1, Out: 1, To: 0, Weight: semiring.One(x.Ring)})
			for _, word := range samples.Words(t, x.In, 2) {
				count += expectWeights(t, c.Line, x, word, samples.Words(t, x.Out, 3))
			}
		}
		if count < 100 {
			t.Errorf("%s: only %d weights are not Zero", c.Line, count)
		}
	}
}

func TestWeightsOfLongWords(t *testing.T) {
	// Each symbol is written once with 1/2, or twice with 1/3, so that n symbols become m with (n over m - n) times a power of both.
	x := samples.Trans(t, "ring rational;in 1;out 1;states 2;initial 0 1;final 0 1;arc 0 1 1 0 1/2;arc 0 1 1 1 1/3;arc 1 0 1 0 1")
	for _, n := range []int{0, 1, 2, 9, 20} {
		word := slices.Repeat([]int{1}, n)
		var others [][]int
		for m := range 2*n + 3 {
			others = append(others, slices.Repeat([]int{1}, m))
		}
		if count := expectWeights(t, "once or twice", x, word, others); count != n+1 {
			t.Errorf("%d symbols: %d weights are not 0", n, count)
		}
	}
	// All 2^63 words of 63 symbols are written, with the same weight.
	x = samples.Trans(t, "ring rational;in 1;out 2;states 1;initial 0 1;final 0 1;arc 0 1 1 0 1/2;arc 0 1 2 0 1/2")
	long := slices.Repeat([]int{1}, api.MaxStates-1)
	if count := expectWeights(t, "long", x, long, [][]int{long, slices.Repeat([]int{2, 1, 1}, 21), long[1:], append(slices.Clone(long), 1)}); count != 2 {
		t.Errorf("%d weights are not 0", count)
	}
}
