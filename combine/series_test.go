package combine_test

import (
	"math/rand"
	"slices"
	"strconv"
	"testing"

	"weighted/api"
	"weighted/automaton"
	"weighted/epsilon"
	"weighted/polynomial"
	"weighted/position"
	"weighted/rational"
	"weighted/regex"
	"weighted/samples"
	"weighted/semiring"
	"weighted/weigh"
)

// series holds the weights of words in an automaton whose empty labels are removed.
type series struct {
	t *testing.T
	a api.Auto
}

// seriesOf returns the series of an automaton that has one.
func seriesOf(t *testing.T, a api.Auto) series {
	t.Helper()
	b, e := epsilon.Remove(a)
	if e != api.OK {
		t.Fatalf("%s: Remove: %v", samples.Shown(a), e)
	}
	return series{t, b}
}

// of returns the weight of a word.
func (s series) of(word []int) api.Weight {
	s.t.Helper()
	w, e := weigh.Weight(s.a, word)
	if e != api.OK {
		s.t.Fatalf("%s: no weight of %v: %v", samples.Shown(s.a), word, e)
	}
	return w
}

// expect checks the weight of a word.
func (s series) expect(what string, word []int, want api.Weight) {
	s.t.Helper()
	if got := s.of(word); !semiring.Equal(got, want) {
		s.t.Errorf("%s: the word %v has the weight %s, not %s", what, word, semiring.Format(s.a.Ring, got), semiring.Format(s.a.Ring, want))
	}
}

// hasSeries reports whether empty labels can be removed.
func hasSeries(t *testing.T, a api.Auto) bool {
	t.Helper()
	_, e := epsilon.Remove(a)
	if e != api.OK && e != api.ErrStar {
		t.Fatalf("%s: Remove: %v", samples.Shown(a), e)
	}
	return e == api.OK
}

// product returns the product of weights.
func product(r api.Ring, weights ...api.Weight) api.Weight {
	out := semiring.One(r)
	for _, w := range weights {
		out = semiring.Times(r, out, w)
	}
	return out
}

// splits returns the sum, over all ways to write a word as u v with a u of at least so many symbols, of the products of the weights of u and v.
func splits(r api.Ring, word []int, least int, first, second func(word []int) api.Weight) api.Weight {
	sum := semiring.Zero(r)
	for at := least; at <= len(word); at++ {
		sum = semiring.Plus(r, sum, product(r, first(word[:at]), second(word[at:])))
	}
	return sum
}

func TestSeriesOfSumsAndProducts(t *testing.T) {
	source := rand.New(rand.NewSource(11))
	for _, s := range samples.Cases() {
		r := s.Ring(t)
		for range 8 {
			a, b := s.Random(t, source.Intn, 1+source.Intn(4), source.Intn(10), true), s.Random(t, source.Intn, 1+source.Intn(4), source.Intn(10), true)
			first, second := seriesOf(t, a), seriesOf(t, b)
			sum, chain, twice, square := seriesOf(t, union(t, a, b)), seriesOf(t, concat(t, a, b)), seriesOf(t, union(t, a, a)), seriesOf(t, concat(t, b, b))
			for _, word := range samples.Words(t, 2, 3) {
				v, w := first.of(word), second.of(word)
				sum.expect("Union", word, semiring.Plus(r, v, w))
				twice.expect("Union of an automaton with itself", word, semiring.Plus(r, v, v))
				chain.expect("Concat", word, splits(r, word, 0, first.of, second.of))
				square.expect("Concat of an automaton with itself", word, splits(r, word, 0, second.of, second.of))
			}
		}
	}
}

func TestSeriesOfReverseAndScale(t *testing.T) {
	source := rand.New(rand.NewSource(12))
	for _, s := range samples.Cases() {
		r := s.Ring(t)
		for i, w := range append(s.Weights(t), api.Weight{Cost: -1}, api.Weight{Parts: make([]api.Weight, 4)}) {
			a := s.Random(t, source.Intn, 1+source.Intn(4), source.Intn(10), true)
			first, back, more := seriesOf(t, a), seriesOf(t, reverse(t, a)), seriesOf(t, scale(t, a, w))
			for _, word := range samples.Words(t, 2, 3) {
				turned := slices.Clone(word)
				slices.Reverse(turned)
				back.expect("Reverse", turned, first.of(word))
				more.expect("Scale with weight "+strconv.Itoa(i), word, semiring.Times(r, first.of(word), w))
			}
		}
	}
}

// starWeight returns the weight of a word in the star of a series, found by taking the first word that is not empty off.
func starWeight(t *testing.T, s series, word []int) api.Weight {
	t.Helper()
	r := s.a.Ring
	c, e := semiring.Star(r, s.of(nil))
	if e != api.OK {
		t.Fatalf("%s: no star of the weight of the empty word", samples.Shown(s.a))
	}
	if len(word) == 0 {
		return c
	}
	rest := func(word []int) api.Weight { return starWeight(t, s, word) }
	return semiring.Times(r, c, splits(r, word, 1, s.of, rest))
}

func TestSeriesOfStar(t *testing.T) {
	source := rand.New(rand.NewSource(13))
	for _, s := range samples.Cases() {
		found := 0
		for range 25 {
			a := s.Random(t, source.Intn, 1+source.Intn(3), source.Intn(9), true)
			// Some have numbers that are so small that the star exists.
			for i := range a.States {
				a.Initial[i] = semiring.Times(a.Ring, a.Initial[i], s.Weights(t)[2+source.Intn(3)])
			}
			got := star(t, a)
			if !hasSeries(t, got) {
				continue
			}
			found++
			first, all := seriesOf(t, a), seriesOf(t, got)
			for _, word := range samples.Words(t, 2, 3) {
				all.expect("Star", word, starWeight(t, first, word))
			}
		}
		if found < 8 {
			t.Errorf("%s: only %d of the automata have a star", s.Line, found)
		}
	}
}

// factors returns the sum, over all ways to write a word as at most so many words, which may be empty, of the products of their weights.
func factors(s series, word []int, most int) api.Weight {
	sum := semiring.Zero(s.a.Ring)
	if len(word) == 0 {
		sum = semiring.One(s.a.Ring)
	}
	if most == 0 {
		return sum
	}
	rest := func(word []int) api.Weight { return factors(s, word, most-1) }
	return semiring.Plus(s.a.Ring, sum, splits(s.a.Ring, word, 0, s.of, rest))
}

func TestStarIsTheSumOverAllWays(t *testing.T) {
	// Over costs, chances and sets further empty words add nothing, and over all rings without a weight of the empty word they are Zero.
	source := rand.New(rand.NewSource(14))
	for _, s := range samples.Cases() {
		kind := s.Ring(t).Kind
		idempotent := kind == api.Tropical || kind == api.Viterbi || kind == api.Sets
		for range 6 {
			a := s.Random(t, source.Intn, 2, source.Intn(8), true)
			if !idempotent {
				// Words lead from state 0 to state 1, with one symbol at least.
				a.Initial[1], a.Final[0] = semiring.Zero(a.Ring), semiring.Zero(a.Ring)
				a.Arcs = slices.DeleteFunc(a.Arcs, func(x api.Arc) bool { return x.Label == 0 })
			}
			first, all := seriesOf(t, a), seriesOf(t, star(t, a))
			for _, word := range samples.Words(t, 2, 3) {
				for most := len(word) + 1; most < len(word)+3; most++ {
					all.expect("Star", word, factors(first, word, most))
				}
			}
		}
	}
}

func TestWhichStarsHaveSeries(t *testing.T) {
	for _, x := range []struct {
		ring, ends string
		want       bool
	}{
		{"rational", "initial 0 1;final 0 1", false},
		{"rational", "initial 0 1;final 0 -1", false},
		{"rational", "initial 0 -1;final 0 -1", false},
		{"rational", "initial 0 5;final 0 1/5", false},
		{"rational", "initial 0 5;final 0 1/6", true},
		{"rational", "initial 0 -5;final 0 1/6", true},
		{"rational", "initial 0 1/2;initial 1 1/2;final 0 1;final 1 1", false},
		{"rational", "initial 0 1/2;initial 1 -1/2;final 0 1;final 1 1", false},
		{"rational", "initial 0 2/3;initial 1 -2/3;final 0 1;final 1 1", false},
		{"rational", "initial 0 1/2;initial 1 1/3;final 0 1;final 1 1", true},
		{"rational", "initial 0 1/2;initial 1 1/3;initial 2 1/6;final 0 1;final 1 1;final 2 -1", false},
		{"rational", "initial 0 1/2;initial 1 1/3;initial 2 1/7;final 0 1;final 1 1;final 2 -1", true},
		{"rational", "initial 0 100;initial 1 100;final 2 100", true},
		{"rational", "initial 0 100;final 0 1/101;initial 1 100;final 2 100", true},
		{"tropical", "initial 0 0;final 0 0", true},
		{"tropical", "initial 0 1;final 0 2;initial 1 0;final 1 0", true},
		{"viterbi", "initial 0 1;final 0 1;initial 1 1;final 1 1", true},
		{"sets", "initial 0 ffffffffffffffff;final 0 ffffffffffffffff", true},
		{"polynomial", "initial 0 1;final 0 1", false},
		{"polynomial", "initial 0 a;final 0 100", true},
		{"polynomial", "initial 0 a+1;final 0 b-1/2", true},
		{"polynomial", "initial 0 a+1;final 0 b-1/2;initial 1 1/2;final 1 1", false},
		{"product tropical rational", "initial 0 0|1;final 0 0|1", false},
		{"product tropical rational", "initial 0 0|1;final 0 0|1/2", true},
		{"product rational rational", "initial 0 0|1;final 0 1|0", true},
		{"product rational rational", "initial 0 0|1;final 0 1|-1", false},
	} {
		a := samples.Model(t, "ring "+x.ring+";symbols a;states 3;"+x.ends)
		a.Arcs = []api.Arc{{From: 0, Label: 1, To: 1, Weight: semiring.One(a.Ring)}}
		if got := hasSeries(t, star(t, a)); got != x.want {
			t.Errorf("%s, %s: %v", x.ring, x.ends, got)
		}
	}
}

func TestStarHasASeriesExactlyIf(t *testing.T) {
	// This is what the chapter says of Rational, and also of the coefficients without parameters of polynomials.
	source := rand.New(rand.NewSource(15))
	one := api.Rat{Num: []uint32{1}}
	for _, s := range samples.Cases() {
		kind := s.Ring(t).Kind
		counts := map[bool]int{}
		for range 100 {
			a := s.Random(t, source.Intn, 1+source.Intn(4), source.Intn(8), true)
			a.Arcs = slices.DeleteFunc(a.Arcs, func(x api.Arc) bool { return x.Label == 0 })
			var sum api.Rat
			for i := range a.States {
				a.Initial[i] = semiring.Times(a.Ring, a.Initial[i], s.Weights(t)[1+source.Intn(4)*source.Intn(2)])
				w := semiring.Times(a.Ring, a.Initial[i], a.Final[i])
				if kind == api.Polynomial {
					w.Q = polynomial.Lowest(w.Poly)
				}
				sum = rational.Add(sum, rational.Abs(w.Q))
			}
			got, want := hasSeries(t, star(t, a)), rational.Compare(sum, one) < 0
			switch kind {
			case api.Tropical, api.Viterbi, api.Sets:
				want = true
			case api.Product:
				want = got
			}
			counts[got]++
			if got != want {
				t.Errorf("%s: the Star has a series: %v", samples.Shown(a), got)
			}
		}
		if (kind == api.Rational || kind == api.Polynomial) && (counts[true] < 10 || counts[false] < 10) {
			t.Errorf("%s: %v", s.Line, counts)
		}
	}
}

func TestExample(t *testing.T) {
	r := api.Ring{Kind: api.Rational}
	half := api.Rat{Num: []uint32{1}, Den: []uint32{2}}
	a, e := automaton.Letter(r, 1, 1, api.Weight{Q: half})
	if e != api.OK {
		t.Fatal(e)
	}
	got := seriesOf(t, star(t, a))
	want := semiring.One(r)
	for n := range 20 {
		got.expect("Star of a letter", slices.Repeat([]int{1}, n), want)
		want.Q = rational.Mul(want.Q, half)
	}
	// The star of the empty word with the weight 1/2.
	a, e = automaton.Letter(r, 1, 0, api.Weight{Q: half})
	if e != api.OK {
		t.Fatal(e)
	}
	seriesOf(t, star(t, a)).expect("Star of the empty word", nil, api.Weight{Q: api.Rat{Num: []uint32{2}}})
}

func TestExpressions(t *testing.T) {
	// Of the automata of parts, the functions build those of whole expressions.
	r, table := api.Ring{Kind: api.Rational}, []string{"a", "b"}
	parts := []string{"0", "1", "[1/5]1", "a", "[1/3]a b", "[1/2](a + b)*", "a ([-1/2]b + a)*", "[2/9](1 + [-1/4](a b)*) b"}
	for _, first := range parts {
		for _, second := range parts {
			a, b := fromText(t, r, table, first), fromText(t, r, table, second)
			agree(t, r, table, union(t, a, b), "("+first+") + "+second)
			agree(t, r, table, concat(t, a, b), "("+first+") ("+second+")")
			agree(t, r, table, concat(t, union(t, a, b), a), "("+first+" + "+second+") ("+first+")")
			agree(t, r, table, union(t, concat(t, b, a), b), "("+second+") ("+first+") + "+second)
		}
		a := fromText(t, r, table, first)
		if got := star(t, a); hasSeries(t, got) {
			agree(t, r, table, got, "("+first+")*")
		}
		w := api.Weight{Q: api.Rat{Neg: true, Num: []uint32{2}, Den: []uint32{7}}}
		agree(t, r, table, scale(t, a, w), "[-2/7]("+first+")")
	}
}

// parsed returns the expression of a text.
func parsed(t *testing.T, r api.Ring, table []string, text string) []api.ENode {
	t.Helper()
	e, at, err := regex.Parse(r, table, text)
	if err != api.OK {
		t.Fatalf("%s: %v at %d", text, err, at)
	}
	return e
}

// fromText returns the position automaton of an expression.
func fromText(t *testing.T, r api.Ring, table []string, text string) api.Auto {
	t.Helper()
	a, err := position.Automaton(r, len(table), parsed(t, r, table, text))
	if err != api.OK {
		t.Fatalf("%s: no automaton: %v", text, err)
	}
	return a
}

// agree checks that an automaton gives words the weights that an expression gives them.
func agree(t *testing.T, r api.Ring, table []string, a api.Auto, text string) {
	t.Helper()
	e, got := parsed(t, r, table, text), seriesOf(t, a)
	for _, word := range samples.Words(t, len(table), 3) {
		want, err := regex.Weight(r, len(table), e, word)
		if err != api.OK {
			t.Fatalf("%s: %v: %v", text, word, err)
		}
		got.expect(text, word, want)
	}
}

func TestUnionAndConcatAreAssociative(t *testing.T) {
	// The states and arcs are the same, whichever pair comes first.
	source := rand.New(rand.NewSource(16))
	for _, s := range samples.Cases() {
		for range 8 {
			a, b, c := s.Random(t, source.Intn, 1+source.Intn(3), source.Intn(8), true), s.Random(t, source.Intn, 1+source.Intn(3), source.Intn(8), true), s.Random(t, source.Intn, 1+source.Intn(3), source.Intn(8), true)
			samples.Expect(t, "Union of three", union(t, union(t, a, b), c), union(t, a, union(t, b, c)))
			samples.Expect(t, "Concat of three", concat(t, concat(t, a, b), c), concat(t, a, concat(t, b, c)))
			// Reverse exchanges the two of a Concat, which then have other numbers.
			var to []int
			for i := range a.States + b.States {
				to = append(to, (i+b.States)%(a.States+b.States))
			}
			turned, e := automaton.Renumber(reverse(t, concat(t, a, b)), to)
			samples.Expect(t, "Reverse of a Concat", samples.Must(t, turned, e), concat(t, reverse(t, b), reverse(t, a)))
			samples.Expect(t, "Reverse of a Union", reverse(t, union(t, a, b)), union(t, reverse(t, a), reverse(t, b)))
			samples.Expect(t, "Reverse of a Star", reverse(t, star(t, a)), star(t, reverse(t, a)))
		}
	}
}

func TestScaleOfTheOthers(t *testing.T) {
	source := rand.New(rand.NewSource(17))
	for _, s := range samples.Cases() {
		for _, w := range s.Weights(t) {
			a, b := s.Random(t, source.Intn, 1+source.Intn(3), source.Intn(8), true), s.Random(t, source.Intn, 1+source.Intn(3), source.Intn(8), true)
			samples.Expect(t, "Scale of a Union", scale(t, union(t, a, b), w), union(t, scale(t, a, w), scale(t, b, w)))
			samples.Expect(t, "Scale of a Concat", scale(t, concat(t, a, b), w), concat(t, scale(t, a, w), b))
		}
	}
}
