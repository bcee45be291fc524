package weigh_test

import (
	"fmt"
	"math/rand"
	"slices"
	"strings"
	"testing"

	"weighted/api"
	"weighted/automaton"
	"weighted/rational"
	"weighted/semiring"
)

// ringCase is a ring with texts of weights, the first two of which are Zero and One, and with texts whose weights have the sum Zero.
type ringCase struct {
	ring  api.Ring
	texts []string
	none  []string
}

// ringCases returns a ring of each kind, and some products.
func ringCases() []ringCase {
	return []ringCase{
		{numbers(), []string{"0", "1", "1/2", "-1/2", "2", "-7/3", "1/3"}, []string{"1/2", "1/3", "-5/6"}},
		{api.Ring{Kind: api.Tropical}, []string{"inf", "0", "1", "3", "7", "1099511627776"}, []string{"inf", "inf"}},
		{api.Ring{Kind: api.Viterbi}, []string{"0", "1", "1/2", "1/3", "2/3"}, []string{"0", "0"}},
		{api.Ring{Kind: api.Sets}, []string{"0000000000000000", "ffffffffffffffff", "00000000000000ff", "8000000000000001", "0000000000000f0f", "000000000000f000"}, []string{"0000000000000000"}},
		{api.Ring{Kind: api.Polynomial}, []string{"0", "1", "a", "-a", "a*b+1/2", "-1/3", "-b+c^5"}, []string{"a+1", "-a", "-1"}},
		{product(api.Rational, api.Tropical), []string{"0|inf", "1|0", "1/2|3", "-1/2|5", "-1/2|inf", "0|3"}, []string{"1/2|inf", "-1/2|inf"}},
		{product(api.Rational, api.Rational), []string{"0|0", "1|1", "1/2|-1/2", "-1/2|1/2", "0|3", "3|0"}, []string{"1|2", "-1|0", "0|-2"}},
		{product(api.Viterbi, api.Sets, api.Polynomial), []string{"0|0000000000000000|0", "1|ffffffffffffffff|1", "1/2|000000000000000f|a", "0|0000000000000000|-a", "1/3|00000000000000f0|b^2-1"}, []string{"0|0000000000000000|a", "0|0000000000000000|-a"}},
	}
}

// numbers returns the ring of the rational numbers.
func numbers() api.Ring {
	return api.Ring{Kind: api.Rational}
}

// costs returns the ring of costs.
func costs() api.Ring {
	return api.Ring{Kind: api.Tropical}
}

// product returns the ring of tuples of kinds.
func product(kinds ...int) api.Ring {
	return api.Ring{Kind: api.Product, Parts: kinds}
}

// read reads a weight that a test relies on.
func read(t *testing.T, r api.Ring, text string) api.Weight {
	t.Helper()
	w, ok := semiring.Parse(r, text)
	if !ok {
		t.Fatalf("%v: no weight: %q", r, text)
	}
	return w
}

// readAll reads weights with spaces between them.
func readAll(t *testing.T, r api.Ring, texts string) []api.Weight {
	t.Helper()
	var out []api.Weight
	for _, text := range strings.Fields(texts) {
		out = append(out, read(t, r, text))
	}
	return out
}

// number returns a whole number as a weight of the rational numbers.
func number(v int) api.Weight {
	x, _ := rational.Make(v, 1)
	return api.Weight{Q: x}
}

// model returns an automaton with these initial and final weights and arcs, each of which is of the form "0 2 1 1/2": from 0 with the label 2 to 1.
func model(t *testing.T, r api.Ring, symbols int, initial, final string, arcs ...string) api.Auto {
	t.Helper()
	a := api.Auto{Ring: r, Symbols: symbols, Initial: readAll(t, r, initial), Final: readAll(t, r, final)}
	a.States = len(a.Initial)
	for _, text := range arcs {
		var x api.Arc
		var weight string
		if n, err := fmt.Sscan(text, &x.From, &x.Label, &x.To, &weight); n != 4 || err != nil {
			t.Fatalf("no arc: %q", text)
		}
		x.Weight = read(t, r, weight)
		a.Arcs = append(a.Arcs, x)
	}
	if !automaton.Valid(a) {
		t.Fatalf("no automaton: %v", a)
	}
	return a
}

// blank returns an automaton of Zero weights without arcs.
func blank(r api.Ring, symbols, states int) api.Auto {
	a := api.Auto{Ring: r, Symbols: symbols, States: states}
	for range states {
		a.Initial = append(a.Initial, semiring.Zero(r))
		a.Final = append(a.Final, semiring.Zero(r))
	}
	return a
}

// random returns an automaton with some equal arcs, in any order, some of them with the empty label as long as these have the sum Zero.
func random(t *testing.T, source *rand.Rand, s ringCase, symbols, states, size int) api.Auto {
	t.Helper()
	weight := func() api.Weight { return read(t, s.ring, s.texts[source.Intn(len(s.texts))]) }
	a := blank(s.ring, symbols, states)
	for i := range states {
		a.Initial[i], a.Final[i] = weight(), weight()
	}
	for range size {
		a.Arcs = append(a.Arcs, api.Arc{From: source.Intn(states), Label: 1 + source.Intn(symbols), To: source.Intn(states), Weight: weight()})
	}
	a.Arcs = append(a.Arcs, vanishing(t, s, source.Intn(states), source.Intn(symbols+1), source.Intn(states))...)
	a.Arcs = append(a.Arcs, vanishing(t, s, source.Intn(states), 0, source.Intn(states))...)
	source.Shuffle(len(a.Arcs), func(i, k int) { a.Arcs[i], a.Arcs[k] = a.Arcs[k], a.Arcs[i] })
	return a
}

// vanishing returns arcs that the normal form leaves out if there are no others with the same ends and label.
func vanishing(t *testing.T, s ringCase, from, label, to int) []api.Arc {
	t.Helper()
	var out []api.Arc
	for _, text := range s.none {
		out = append(out, api.Arc{From: from, Label: label, To: to, Weight: read(t, s.ring, text)})
	}
	return out
}

// allWords returns all words of at most so many symbols.
func allWords(symbols, length int) [][]int {
	all := [][]int{nil}
	for i := 0; i < len(all); i++ {
		for symbol := 1; symbol <= symbols && len(all[i]) < length; symbol++ {
			all = append(all, append(slices.Clone(all[i]), symbol))
		}
	}
	return all
}

// randomWord returns a word of so many symbols.
func randomWord(source *rand.Rand, symbols, length int) []int {
	word := make([]int, length)
	for i := range word {
		word[i] = 1 + source.Intn(symbols)
	}
	return word
}

// walk is a path from any state to any state, with the numbers of its arcs and their weights multiplied.
type walk struct {
	start, end int
	arcs       []int
	weight     api.Weight
}

// walks returns all paths with a word as labels, by their starts and the numbers of their arcs.
func walks(a api.Auto, word []int) []walk {
	var all []walk
	for q := range a.States {
		all = append(all, walk{start: q, end: q, weight: semiring.One(a.Ring)})
	}
	for _, symbol := range word {
		var longer []walk
		for _, w := range all {
			for i, x := range a.Arcs {
				if x.From == w.end && x.Label == symbol {
					longer = append(longer, walk{w.start, x.To, append(slices.Clone(w.arcs), i), semiring.Times(a.Ring, w.weight, x.Weight)})
				}
			}
		}
		all = longer
	}
	return all
}

// plus adds a weight to another one.
func plus(r api.Ring, sum *api.Weight, w api.Weight) {
	*sum = semiring.Plus(r, *sum, w)
}

// scalar returns the sum of the products of two lists.
func scalar(r api.Ring, v, w []api.Weight) api.Weight {
	sum := semiring.Zero(r)
	for i := range v {
		plus(r, &sum, semiring.Times(r, v[i], w[i]))
	}
	return sum
}

// power returns a weight multiplied by itself so many times.
func power(r api.Ring, w api.Weight, times int) api.Weight {
	out := semiring.One(r)
	for range times {
		out = semiring.Times(r, out, w)
	}
	return out
}

// isZero reports whether a weight is Zero.
func isZero(r api.Ring, w api.Weight) bool {
	return semiring.Equal(w, semiring.Zero(r))
}

// equalNumbers reports whether two numbers have the same fields.
func equalNumbers(x, y api.Rat) bool {
	return semiring.Equal(api.Weight{Q: x}, api.Weight{Q: y})
}

// equalPaths reports whether two lists of paths are equal.
func equalPaths(v, w []api.Path) bool {
	return slices.EqualFunc(v, w, func(x, y api.Path) bool {
		return x.Start == y.Start && slices.Equal(x.Arcs, y.Arcs) && semiring.Equal(x.Weight, y.Weight)
	})
}

// equalWeights reports whether two lists of weights are equal.
func equalWeights(v, w []api.Weight) bool {
	return slices.EqualFunc(v, w, semiring.Equal)
}
