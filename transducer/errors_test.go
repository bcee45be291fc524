package transducer_test

import (
	"math"
	"slices"
	"testing"

	"weighted/api"
	"weighted/samples"
	"weighted/semiring"
	"weighted/transducer"
)

// wrongWords are no words over 2 or over 3 symbols.
func wrongWords() [][]int {
	long := slices.Repeat([]int{1}, api.MaxWord+1)
	return [][]int{{0}, {-1}, {4}, {33}, {1, 0}, {0, 1}, {1, 2, 4, 1}, {math.MinInt}, {math.MaxInt}, {1<<32 + 1}, long, slices.Repeat(long, 3), make([]int, api.MaxWord+1)}
}

func TestWordsThatAreNotValid(t *testing.T) {
	for _, c := range samples.Cases() {
		for _, text := range []string{
			"in 2;out 3;states 1;initial 0 one;final 0 one;arc 0 1 0 0 one;arc 0 0 1 0 one;arc 0 0 3 0 one;arc 0 2 0 0 one",
			"in 2;out 3;states 2;initial 0 one;final 1 one;arc 0 1 3 1 w0;arc 0 0 0 1 w1",
			"in 2;out 3;states 1",
			"in 2;out 3;states 0",
		} {
			x := samples.Trans(t, c.Fill(text, 0))
			for _, wrong := range wrongWords() {
				for _, right := range [][]int{nil, {1}, {2, 1}, slices.Repeat([]int{2}, api.MaxWord)} {
					fail(t, c.Line, x, wrong, right, api.ErrLabels)
					fail(t, c.Line, x, right, wrong, api.ErrLabels)
				}
				for _, other := range wrongWords() {
					fail(t, c.Line, x, wrong, other, api.ErrLabels)
				}
			}
			// A symbol of the other side alone.
			fail(t, c.Line, x, []int{3}, nil, api.ErrLabels)
			fail(t, c.Line, x, []int{1, 3}, []int{3}, api.ErrLabels)
			fail(t, c.Line, samples.Turned(x), nil, []int{3}, api.ErrLabels)
			fail(t, c.Line, samples.Turned(x), []int{3}, []int{1, 3, 1}, api.ErrLabels)
			samples.PairWeight(t, x, []int{2}, []int{3})
			samples.PairWeight(t, samples.Turned(x), []int{3}, []int{2})
		}
	}
}

func TestLongWords(t *testing.T) {
	longest := slices.Repeat([]int{1}, api.MaxWord)
	longer := slices.Repeat([]int{1}, api.MaxWord+1)
	for _, c := range samples.Cases() {
		x := samples.Trans(t, c.Fill("in 1;out 1;states 1;initial 0 one;final 0 w1;arc 0 1 1 0 one;arc 0 1 0 0 zero", 0))
		samples.ExpectPair(t, c.Line, x, longest, longest, x.Final[0])
		samples.ExpectPair(t, c.Line, x, longest, longest[1:], semiring.Zero(x.Ring))
		samples.ExpectPair(t, c.Line, x, longest[1:], longest, semiring.Zero(x.Ring))
		samples.ExpectPair(t, c.Line, x, longest, nil, semiring.Zero(x.Ring))
		samples.ExpectPair(t, c.Line, x, nil, longest, semiring.Zero(x.Ring))
		fail(t, c.Line, x, longer, longest, api.ErrLabels)
		fail(t, c.Line, x, longest, longer, api.ErrLabels)
		fail(t, c.Line, x, longer, longer, api.ErrLabels)
		fail(t, c.Line, x, longer, nil, api.ErrLabels)
		fail(t, c.Line, x, nil, longer, api.ErrLabels)
	}
}

func TestErrorsInTheirOrder(t *testing.T) {
	for _, c := range samples.Cases() {
		good := samples.Trans(t, c.Fill("in 2;out 3;states 3;initial 0 one;final 1 w1;arc 0 1 3 1 w0;arc 1 0 0 2 w2", 0))
		for _, closing := range []string{"arc 2 0 0 1 one", "arc 2 0 0 2 w0", "arc 2 0 0 0 w1;arc 0 0 0 1 w2"} {
			loops := good
			loops.Arcs = slices.Concat(good.Arcs, samples.Trans(t, c.Fill("in 2;out 3;states 3;"+closing, 0)).Arcs)
			if !transducer.Loops(loops) {
				t.Fatalf("%s: no loops: %s", c.Line, closing)
			}
			broken, both := good, loops
			broken.Final, both.Initial = broken.Final[1:], both.Initial[1:]
			for _, words := range [][2][]int{{nil, nil}, {{1}, {3}}, {{3}, {3}}, {{1}, {4}}, {{0}, {0}}, {make([]int, api.MaxWord+1), {1}}, {{1}, slices.Repeat([]int{1}, api.MaxWord+1)}} {
				fail(t, c.Line+": "+closing, loops, words[0], words[1], api.ErrEpsilon)
				fail(t, c.Line+": "+closing, broken, words[0], words[1], api.ErrForm)
				fail(t, c.Line+": "+closing, both, words[0], words[1], api.ErrForm)
			}
		}
		samples.PairWeight(t, good, []int{1}, []int{3})
		fail(t, c.Line, good, []int{3}, []int{3}, api.ErrLabels)
		fail(t, c.Line, good, []int{1}, []int{4}, api.ErrLabels)
	}
}

func TestCyclesThatVanish(t *testing.T) {
	for _, c := range samples.Cases() {
		x := samples.Trans(t, c.Fill("in 1;out 1;states 2;initial 0 one;final 1 w1;gone 0 0 0 0;gone 1 0 0 0;arc 0 0 0 1 one;arc 1 0 0 1 zero;arc 1 1 0 1 one", 0))
		samples.ExpectPair(t, c.Line, x, nil, nil, x.Final[1])
		samples.ExpectPair(t, c.Line, x, []int{1, 1}, nil, x.Final[1])
		samples.ExpectPair(t, c.Line, x, nil, []int{1}, semiring.Zero(x.Ring))
	}
}

func TestResultsAreNewMemory(t *testing.T) {
	// All else of this is in folder rules: here stand the ways in which a weight could be that of an argument.
	for _, c := range samples.Cases() {
		for i := range c.Others {
			x := samples.Trans(t, c.Fill("in 1;out 1;states 2;initial 0 one;final 1 one;arc 0 1 0 1 w0;arc 0 0 0 1 w0", i))
			want := semiring.Format(x.Ring, x.Arcs[0].Weight)
			for _, in := range [][]int{nil, {1}} {
				w := samples.PairWeight(t, x, in, nil)
				samples.Overwrite(&w)
				expectText(t, c.Line, x, in, nil, want)
			}
			n := samples.NormalTrans(t, x)
			for k := range n.Arcs {
				samples.Overwrite(&n.Arcs[k].Weight)
			}
			expectText(t, c.Line, x, nil, nil, want)
		}
	}
}
