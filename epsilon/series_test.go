package epsilon_test

import (
	"fmt"
	"math/rand"
	"slices"
	"testing"

	"weighted/api"
	"weighted/rational"
	"weighted/samples"
	"weighted/semiring"
	"weighted/weigh"
)

// mustWeigh returns the weight that the series of an automaton without empty labels gives a word.
func mustWeigh(t *testing.T, b api.Auto, word []int) api.Weight {
	t.Helper()
	w, e := weigh.Weight(b, word)
	if e != api.OK {
		t.Fatalf("%s: no weight of %v: %v", samples.Shown(b), word, e)
	}
	return w
}

// walker adds up the weights of paths, one by one.
type walker struct {
	n    api.Auto
	most int
	sum  api.Weight
}

// sumOfPaths returns the sum of the weights of all paths of the normal form with a word as labels, if empty ones count as no symbol and at most so many of them stand in a row.
func sumOfPaths(n api.Auto, word []int, most int) api.Weight {
	w := walker{n: n, most: most, sum: semiring.Zero(n.Ring)}
	for i, first := range n.Initial {
		w.walk(i, word, most, first)
	}
	return w.sum
}

// walk adds the weights of all ways on from a state.
func (w *walker) walk(at int, word []int, left int, weight api.Weight) {
	r := w.n.Ring
	if semiring.Equal(weight, semiring.Zero(r)) {
		return
	}
	if len(word) == 0 {
		w.sum = semiring.Plus(r, w.sum, semiring.Times(r, weight, w.n.Final[at]))
	}
	for _, x := range w.n.Arcs {
		switch {
		case x.From != at:
		case x.Label == 0 && left > 0:
			w.walk(x.To, word, left-1, semiring.Times(r, weight, x.Weight))
		case len(word) > 0 && x.Label == word[0]:
			w.walk(x.To, word[1:], w.most, semiring.Times(r, weight, x.Weight))
		}
	}
}

func TestSeriesIsTheSumOverPaths(t *testing.T) {
	// Without a cycle of empty labels there are finitely many paths of each word.
	source := rand.New(rand.NewSource(11))
	for _, s := range samples.Cases() {
		for range 15 {
			a := random(t, source, s, 1+source.Intn(4), source.Intn(8), onward)
			b, n := mustRemove(t, a), samples.Normal(t, a)
			n.Arcs = slices.DeleteFunc(n.Arcs, func(x api.Arc) bool { return x.Label == 0 && x.From == x.To })
			for _, word := range samples.Words(t, a.Symbols, 3) {
				if got, want := mustWeigh(t, b, word), sumOfPaths(n, word, a.States); !semiring.Equal(got, want) {
					t.Errorf("%s: the word %v has the weight %v, not %v", samples.Shown(a), word, got, want)
				}
			}
		}
	}
}

func TestSeriesOfCyclesThatAddNothing(t *testing.T) {
	// Costs, chances and sets: a way that comes back to where it has been adds nothing, so that a finite sum is that of all paths.
	source := rand.New(rand.NewSource(12))
	for _, s := range samples.Cases() {
		if kind := s.Ring(t).Kind; kind != api.Tropical && kind != api.Viterbi && kind != api.Sets {
			continue
		}
		for range 15 {
			a := random(t, source, s, 1+source.Intn(3), source.Intn(6), anywhere)
			b, n := mustRemove(t, a), samples.Normal(t, a)
			for _, word := range samples.Words(t, a.Symbols, 2) {
				for most := a.States - 1; most <= a.States; most++ {
					if got, want := mustWeigh(t, b, word), sumOfPaths(n, word, most); !semiring.Equal(got, want) {
						t.Errorf("%s: the word %v has the weight %v, not %v", samples.Shown(a), word, got, want)
					}
				}
			}
		}
	}
}

func TestSeriesSolvesTheEquationsOfStates(t *testing.T) {
	// What follows a state is, for a word, what follows an empty label for the same word and the first symbol for its rest. Numbers that converge have no other solution.
	source := rand.New(rand.NewSource(13))
	for _, s := range samples.Cases() {
		for range 15 {
			a := random(t, source, s, 1+source.Intn(5), source.Intn(12), anywhere)
			b, n := mustRemove(t, a), samples.Normal(t, a)
			for _, word := range samples.Words(t, a.Symbols, 2) {
				checkEquations(t, b, n, word)
			}
		}
	}
}

// checkEquations checks what the weights of a word from the states of b are in the normal form n with empty labels.
func checkEquations(t *testing.T, b, n api.Auto, word []int) {
	t.Helper()
	from := func(word []int) []api.Weight {
		out, e := weigh.Backward(b, word)
		if e != api.OK {
			t.Fatalf("%s: Backward of %v: %v", samples.Shown(b), word, e)
		}
		return out
	}
	got := from(word)
	want := slices.Clone(n.Final)
	if len(word) > 0 {
		for i := range want {
			want[i] = semiring.Zero(n.Ring)
		}
	}
	for _, x := range n.Arcs {
		if x.Label == 0 {
			want[x.From] = semiring.Plus(n.Ring, want[x.From], semiring.Times(n.Ring, x.Weight, got[x.To]))
		} else if len(word) > 0 && x.Label == word[0] {
			want[x.From] = semiring.Plus(n.Ring, want[x.From], semiring.Times(n.Ring, x.Weight, from(word[1:])[x.To]))
		}
	}
	if !slices.EqualFunc(got, want, semiring.Equal) {
		t.Errorf("%s, %v: the weights from the states are %v, not %v", samples.Shown(n), word, got, want)
	}
}

func TestSeriesIsNearTheSumOverPaths(t *testing.T) {
	// Of numbers that are not negative, the sums over more and more paths grow and come close to the series.
	r := api.Ring{Kind: api.Rational}
	near, ok := rational.Parse("1/100000")
	if !ok {
		t.Fatal("no number")
	}
	a := samples.Model(t, "ring rational;symbols a;states 2;initial 0 1;final 1 1/2;arc 0 - 0 1/9;arc 0 - 1 1/7;arc 1 - 0 1/8;arc 0 a 1 2;arc 1 a 1 1/3")
	b := mustRemove(t, a)
	for _, word := range samples.Words(t, 1, 1) {
		whole, last := mustWeigh(t, b, word), semiring.Zero(r)
		for most := range 9 {
			sum := sumOfPaths(samples.Normal(t, a), word, most)
			if rational.Compare(sum.Q, last.Q) < 0 || rational.Compare(sum.Q, whole.Q) >= 0 {
				t.Errorf("%v: the weight %v is not above %v, which is not above %v", word, whole, sum, last)
			}
			last = sum
		}
		if rational.Compare(rational.Sub(whole.Q, last.Q), near) > 0 {
			t.Errorf("%v: the weight %v is far from %v", word, whole, last)
		}
	}
}

func TestSeriesOfAReversedAutomaton(t *testing.T) {
	// Turned round, the empty labels stand in front of the symbols and no longer behind them.
	source := rand.New(rand.NewSource(14))
	for _, s := range samples.Cases() {
		for range 15 {
			a := random(t, source, s, 1+source.Intn(5), source.Intn(12), anywhere)
			back := a
			back.Initial, back.Final = a.Final, a.Initial
			back.Arcs = slices.Clone(a.Arcs)
			for i, x := range a.Arcs {
				back.Arcs[i].From, back.Arcs[i].To = x.To, x.From
			}
			b, c := mustRemove(t, a), mustRemove(t, back)
			for _, word := range samples.Words(t, a.Symbols, 3) {
				turned := slices.Clone(word)
				slices.Reverse(turned)
				if v, w := mustWeigh(t, b, word), mustWeigh(t, c, turned); !semiring.Equal(v, w) {
					t.Errorf("%s: the word %v has the weight %v, and %v in reverse", samples.Shown(a), word, v, w)
				}
			}
		}
	}
}

func TestSeriesOfAChain(t *testing.T) {
	// Of a b-part behind an a-part behind an empty label: the word a^m b^n has the product of its parts.
	for _, s := range samples.Cases() {
		r := s.Ring(t)
		for shift := range 3 {
			a := samples.Model(t, s.Fill("symbols a b;states 2;initial 0 w0;final 1 w1;arc 0 a 0 w2;arc 0 - 1 w3;arc 1 b 1 s0", shift))
			b := mustRemove(t, a)
			for m := range 4 {
				for n := range 4 {
					want := semiring.One(r)
					for _, w := range slices.Concat([]api.Weight{a.Initial[0], a.Final[1], weightOf(a, 0, 0, 1)}, slices.Repeat([]api.Weight{weightOf(a, 0, 1, 0)}, m), slices.Repeat([]api.Weight{weightOf(a, 1, 2, 1)}, n)) {
						want = semiring.Times(r, want, w)
					}
					word := append(slices.Repeat([]int{1}, m), slices.Repeat([]int{2}, n)...)
					if got := mustWeigh(t, b, word); !semiring.Equal(got, want) {
						t.Errorf("%s: the word %v has the weight %v, not %v", samples.Shown(a), word, got, want)
					}
				}
			}
			if got := mustWeigh(t, b, []int{2, 1}); !semiring.Equal(got, semiring.Zero(r)) {
				t.Errorf("%s: the word 2 1 has the weight %v", samples.Shown(a), got)
			}
		}
	}
}

func TestSeriesThatIsNone(t *testing.T) {
	// Package weigh has no weights for empty labels, and Remove none for those that do not converge, also where no path leads.
	for _, s := range samples.Cases() {
		for shift := range s.Wide {
			for at := range 3 {
				a := samples.Model(t, s.Fill(fmt.Sprintf("symbols a;states 3;initial 0 one;final 0 one;arc 0 a 0 one;arc %d - %d x0", at, at), shift))
				if _, e := weigh.Weight(a, nil); e != api.ErrEpsilon {
					t.Errorf("%s: the weight is no error, but %v", samples.Shown(a), e)
				}
				mustFail(t, s.Line, a, api.ErrStar)
			}
		}
	}
}
