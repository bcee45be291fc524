package compose_test

import (
	"math/rand"
	"slices"
	"testing"

	"weighted/api"
	"weighted/samples"
	"weighted/semiring"
)

func TestExample(t *testing.T) {
	for _, c := range samples.Cases() {
		x := samples.Trans(t, c.Fill("in 1;out 1;states 2;initial 0 one;final 1 one;arc 0 1 0 1 one", 0))
		expect(t, c.Line, x, samples.Turned(x), samples.Trans(t, c.Fill("in 1;out 1;states 2;initial 0 one;final 1 one;arc 0 1 1 1 one", 0)))
	}
	// A path counts 1, and three would count 3.
	x := samples.Trans(t, "ring rational;in 1;out 1;states 2;initial 0 1;final 1 1;arc 0 1 0 1 1")
	samples.ExpectPair(t, "example", composed(t, x, samples.Turned(x)), []int{1}, []int{1}, semiring.One(x.Ring))
}

func TestOnePathForManyEmptyLabels(t *testing.T) {
	// m symbols are read without output, and n written without input, where there are (m + n over m) orders to do so.
	for _, m := range []int{0, 1, 2, 5, 9, 63} {
		for _, n := range []int{0, 1, 2, 7, 63} {
			line := func(states int) api.Trans {
				x := api.Trans{Ring: api.Ring{Kind: api.Rational}, In: 1, Out: 1, States: states + 1}
				zero, one := semiring.Zero(x.Ring), semiring.One(x.Ring)
				x.Initial, x.Final = slices.Repeat([]api.Weight{zero}, states+1), slices.Repeat([]api.Weight{zero}, states+1)
				x.Initial[0], x.Final[states] = one, one
				for i := range states {
					x.Arcs = append(x.Arcs, api.TArc{From: i, In: 1, To: i + 1, Weight: one})
				}
				return x
			}
			out := composed(t, line(m), samples.Turned(line(n)))
			if len(out.Arcs) != max(m, n) || out.States != max(m, n)+1 {
				t.Errorf("%d and %d: %s", m, n, samples.ShownTrans(out))
			}
			samples.ExpectPair(t, "one path", out, slices.Repeat([]int{1}, m), slices.Repeat([]int{1}, n), semiring.One(out.Ring))
		}
	}
}

// expectSums checks that a composition gives pairs of words the sums over the words in the middle, and returns how many of these sums have several terms that are not Zero.
func expectSums(t *testing.T, what string, x, y api.Trans, most int) int {
	t.Helper()
	out, several := composed(t, x, y), 0
	zero := semiring.Zero(x.Ring)
	for _, in := range samples.Words(t, x.In, most) {
		middle := samples.Outputs(x, in)
		for _, last := range samples.Words(t, y.Out, most) {
			sum, terms := zero, 0
			for _, word := range middle {
				w := semiring.Times(x.Ring, samples.PairWeight(t, x, in, word), samples.PairWeight(t, y, word, last))
				if !semiring.Equal(w, zero) {
					sum, terms = semiring.Plus(x.Ring, sum, w), terms+1
				}
			}
			samples.ExpectPair(t, what, out, in, last, sum)
			several += min(terms/2, 1)
		}
	}
	return several
}

func TestSumsOverTheWordsInTheMiddle(t *testing.T) {
	source := rand.New(rand.NewSource(5))
	for _, c := range samples.Cases() {
		several := 0
		for range 25 {
			in, middle, out := 1+source.Intn(2), 1+source.Intn(2), 1+source.Intn(2)
			weights := []string{"one", "w0", "w1", "w2"}
			x := c.Upward(t, source.Intn, in, middle, 2+source.Intn(2), weights)
			y := c.Upward(t, source.Intn, middle, out, 2+source.Intn(2), weights)
			several += expectSums(t, c.Line, x, y, 2)
		}
		if several < 20 {
			t.Errorf("%s: only %d sums have several terms", c.Line, several)
		}
	}
}

func TestNumbersOfPaths(t *testing.T) {
	// With the weight 1 everywhere, weights are numbers of paths.
	source := rand.New(rand.NewSource(6))
	c, several := samples.Cases()[0], 0
	for range 100 {
		x := c.Upward(t, source.Intn, 1, 1, 1+source.Intn(4), []string{"one"})
		y := c.Upward(t, source.Intn, 1, 1, 1+source.Intn(4), []string{"one"})
		several += expectSums(t, "paths", x, y, 3)
	}
	if several < 200 {
		t.Errorf("only %d sums have several terms", several)
	}
}

func TestLongWords(t *testing.T) {
	// The first one writes each symbol twice, the second one reads pairs of equal symbols and writes one of them, but exchanges the symbols.
	x := samples.Trans(t, "ring rational;in 2;out 2;states 3;initial 0 1;final 0 1;arc 0 1 1 1 1/2;arc 1 0 1 0 1;arc 0 2 2 2 1/3;arc 2 0 2 0 1")
	y := samples.Trans(t, "ring rational;in 2;out 2;states 3;initial 0 1;final 0 1;arc 0 1 0 1 2;arc 1 1 2 0 1;arc 0 2 0 2 3;arc 2 2 1 0 1")
	out := composed(t, x, y)
	for _, word := range [][]int{nil, {1}, {2}, {1, 2, 2, 1}, slices.Repeat([]int{1, 2}, 20)} {
		other := make([]int, len(word))
		for i, s := range word {
			other[i] = 3 - s
		}
		samples.ExpectPair(t, "exchanged", out, word, other, semiring.One(x.Ring))
		if len(word) > 0 {
			samples.ExpectPair(t, "as they are", out, word, word, semiring.Zero(x.Ring))
		}
	}
}

func TestThreeTransducers(t *testing.T) {
	source, large := rand.New(rand.NewSource(7)), 0
	for _, c := range samples.Cases() {
		others := 0
		for range 20 {
			weights := []string{"one", "w0", "w1", "w2"}
			x := c.Upward(t, source.Intn, 1, 2, 1+source.Intn(2), weights)
			y := c.Upward(t, source.Intn, 2, 1, 1+source.Intn(2), weights)
			z := c.Upward(t, source.Intn, 1, 2, 1+source.Intn(2), weights)
			left, right := composed(t, composed(t, x, y), z), composed(t, x, composed(t, y, z))
			samples.Pairs(t, left, 2, func(in, out []int) {
				w := samples.PairWeight(t, left, in, out)
				samples.ExpectPair(t, c.Line, right, in, out, w)
				if !semiring.Equal(w, semiring.Zero(x.Ring)) {
					others++
				}
			})
			large += min(left.States/8, 1)
		}
		if others < 20 {
			t.Errorf("%s: %d weights that are not Zero", c.Line, others)
		}
	}
	if large < 20 {
		t.Errorf("%d large compositions", large)
	}
}

// copying returns the transducer of one state that writes what it reads.
func copying(r api.Ring, symbols int) api.Trans {
	one := []api.Weight{semiring.One(r)}
	x := api.Trans{Ring: r, In: symbols, Out: symbols, States: 1, Initial: one, Final: one}
	for label := 1; label <= symbols; label++ {
		x.Arcs = append(x.Arcs, api.TArc{In: label, Out: label, Weight: one[0]})
	}
	return x
}

func TestCompositionWithCopying(t *testing.T) {
	source := rand.New(rand.NewSource(8))
	for _, c := range samples.Cases() {
		for range 20 {
			x := c.Upward(t, source.Intn, 2, 1, 1+source.Intn(4), []string{"one", "w0", "w1", "w2"})
			before, behind := composed(t, copying(x.Ring, 2), x), composed(t, x, copying(x.Ring, 1))
			samples.Pairs(t, x, 3, func(in, out []int) {
				w := samples.PairWeight(t, x, in, out)
				samples.ExpectPair(t, c.Line+", before", before, in, out, w)
				samples.ExpectPair(t, c.Line+", behind", behind, in, out, w)
			})
		}
	}
}
