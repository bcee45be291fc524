package product_test

import (
	"math/rand"
	"slices"
	"testing"

	"weighted/api"
	"weighted/rational"
	"weighted/samples"
	"weighted/semiring"
	"weighted/weigh"
)

// leftOf returns what P16.2 says of LeftQuotient: in place of Initial stands, for each state, the sum over the paths with the word to it.
func leftOf(t *testing.T, a api.Auto, word []int) api.Auto {
	t.Helper()
	out := samples.Normal(t, a)
	for _, symbol := range word {
		next := slices.Repeat([]api.Weight{semiring.Zero(a.Ring)}, a.States)
		for _, x := range a.Arcs {
			if x.Label == symbol {
				next[x.To] = semiring.Plus(a.Ring, next[x.To], semiring.Times(a.Ring, out.Initial[x.From], x.Weight))
			}
		}
		out.Initial = next
	}
	return out
}

// rightOf returns what P16.2 says of RightQuotient: in place of Final stands, for each state, the sum over the paths with the word from it.
func rightOf(t *testing.T, a api.Auto, word []int) api.Auto {
	t.Helper()
	out := samples.Normal(t, a)
	for _, symbol := range slices.Backward(word) {
		next := slices.Repeat([]api.Weight{semiring.Zero(a.Ring)}, a.States)
		for _, x := range a.Arcs {
			if x.Label == symbol {
				next[x.From] = semiring.Plus(a.Ring, next[x.From], semiring.Times(a.Ring, x.Weight, out.Final[x.To]))
			}
		}
		out.Final = next
	}
	return out
}

func TestQuotients(t *testing.T) {
	source := rand.New(rand.NewSource(6))
	for _, s := range samples.Cases() {
		for range 10 {
			a := samples.Shuffled(source.Intn, s.Random(t, source.Intn, 1+source.Intn(5), source.Intn(20), false))
			for _, v := range samples.Words(t, 2, 3) {
				first, last := left(t, a, v), right(t, a, v)
				samples.Expect(t, s.Line, first, leftOf(t, a, v))
				samples.Expect(t, s.Line, last, rightOf(t, a, v))
				forward, e := weigh.Forward(a, v)
				if e != api.OK || !slices.EqualFunc(first.Initial, forward, semiring.Equal) {
					t.Errorf("%s: %v", s.Line, e)
				}
				backward, e := weigh.Backward(a, v)
				if e != api.OK || !slices.EqualFunc(last.Final, backward, semiring.Equal) {
					t.Errorf("%s: %v", s.Line, e)
				}
			}
		}
	}
}

func TestSeriesOfQuotients(t *testing.T) {
	source := rand.New(rand.NewSource(7))
	for _, s := range samples.Cases() {
		for range 5 {
			a := s.Random(t, source.Intn, 1+source.Intn(4), source.Intn(15), false)
			for _, v := range samples.Words(t, 2, 2) {
				first, last := left(t, a, v), right(t, a, v)
				for _, w := range samples.Words(t, 2, 2) {
					expect(t, s.Line+", LeftQuotient", first, w, weight(t, a, slices.Concat(v, w)))
					expect(t, s.Line+", RightQuotient", last, w, weight(t, a, slices.Concat(w, v)))
				}
			}
		}
	}
}

func TestQuotientsOfQuotients(t *testing.T) {
	source := rand.New(rand.NewSource(8))
	for _, s := range samples.Cases() {
		for range 5 {
			a := s.Random(t, source.Intn, 1+source.Intn(4), source.Intn(15), false)
			for _, v := range samples.Words(t, 2, 2) {
				for _, w := range samples.Words(t, 2, 2) {
					both := slices.Concat(v, w)
					samples.Expect(t, s.Line+", LeftQuotient", left(t, left(t, a, v), w), left(t, a, both))
					samples.Expect(t, s.Line+", RightQuotient", right(t, right(t, a, w), v), right(t, a, both))
					samples.Expect(t, s.Line+", on both sides", right(t, left(t, a, v), w), left(t, right(t, a, w), v))
				}
			}
		}
	}
}

func TestQuotientsByTheEmptyWord(t *testing.T) {
	source := rand.New(rand.NewSource(9))
	for _, s := range samples.Cases() {
		for range 10 {
			a := s.Random(t, source.Intn, 1+source.Intn(5), source.Intn(20), false)
			for _, word := range [][]int{nil, {}} {
				samples.Expect(t, s.Line, left(t, a, word), samples.Normal(t, a))
				samples.Expect(t, s.Line, right(t, a, word), samples.Normal(t, a))
			}
		}
	}
}

func TestQuotientsByHand(t *testing.T) {
	const head = "ring rational;symbols a b;"
	const body = "arc 0 a 1 2;arc 0 a 1 1;arc 1 b 0 1/2;arc 1 b 1 5;arc 0 b 2 1;arc 2 b 1 7;arc 1 a 0 1/2;arc 1 a 0 -1/2"
	a := samples.Model(t, head+"states 3;initial 0 1;initial 1 1/3;final 1 11;final 2 13;"+body)
	for _, x := range []struct {
		word          []int
		initial, last string
	}{
		{nil, "initial 0 1;initial 1 1/3", "final 1 11;final 2 13"},
		{[]int{1}, "initial 1 3", "final 0 33"},
		{[]int{2}, "initial 0 1/6;initial 1 5/3;initial 2 1", "final 0 13;final 1 55;final 2 77"},
		{[]int{1, 2}, "initial 0 3/2;initial 1 15", "final 0 165"},
		{[]int{2, 1}, "initial 1 1/2", "final 1 33/2"},
		{[]int{2, 2}, "initial 0 5/6;initial 1 46/3;initial 2 1/6", "final 0 77;final 1 563/2;final 2 385"},
		{[]int{1, 1}, "", ""},
	} {
		want := samples.Normal(t, samples.Model(t, head+"states 3;"+x.initial+";final 1 11;final 2 13;"+body))
		samples.Expect(t, "LeftQuotient", left(t, a, x.word), want)
		want = samples.Normal(t, samples.Model(t, head+"states 3;initial 0 1;initial 1 1/3;"+x.last+";"+body))
		samples.Expect(t, "RightQuotient", right(t, a, x.word), want)
	}
}

func TestQuotientsByLongWords(t *testing.T) {
	a := samples.Model(t, "ring rational;symbols a b;states 2;initial 0 1;final 1 1;arc 0 a 0 1/2;arc 0 b 1 1/3;arc 1 a 1 1/2;arc 1 b 0 3;arc 1 b 0 -3")
	long, half, power := slices.Repeat([]int{1}, api.MaxWord), api.Rat{Num: []uint32{1}, Den: []uint32{2}}, api.Rat{Num: []uint32{1}}
	for range long {
		power = rational.Mul(power, half)
	}
	first, last := left(t, a, long), right(t, a, long)
	if rational.Compare(first.Initial[0].Q, power) != 0 || rational.Compare(last.Final[1].Q, power) != 0 {
		t.Errorf("%s, %s", samples.Shown(first), samples.Shown(last))
	}
	samples.Expect(t, "LeftQuotient", first, leftOf(t, a, long))
	samples.Expect(t, "RightQuotient", last, rightOf(t, a, long))
	// Two quotients take off more symbols than one word may have.
	samples.Expect(t, "LeftQuotient", left(t, first, long), leftOf(t, a, slices.Concat(long, long)))
	samples.Expect(t, "RightQuotient", right(t, last, long), rightOf(t, a, slices.Concat(long, long)))
	failQuotients(t, "a long word", a, slices.Concat(long, []int{1}), api.ErrLabels)
	failQuotients(t, "a long word", a, slices.Concat([]int{3}, long[1:]), api.ErrLabels)
	failQuotients(t, "a long word", a, slices.Concat(long[1:], []int{0}), api.ErrLabels)
}
