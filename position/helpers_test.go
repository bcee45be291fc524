package position_test

import (
	"math/rand"
	"slices"
	"strconv"
	"strings"
	"testing"

	"weighted/api"
	"weighted/automaton"
	"weighted/position"
	"weighted/regex"
	"weighted/semiring"
	"weighted/weigh"
)

// ringCase is a ring with the texts of its weight Zero, of some others, and of two small ones, which stars within stars may have as factors.
type ringCase struct {
	ring    api.Ring
	zero    string
	weights []string
	small   [2]string
}

// ringCases returns a ring of each kind, and products. Some of their weights are Zero in one part alone, and some have a sum or a product that is Zero.
func ringCases() []ringCase {
	return []ringCase{
		{rational(), "0", []string{"1/2", "-1/2", "1", "-7/3", "0", "2", "123456789012345678901234567890/11"}, [2]string{"1/9", "-1/9"}},
		{api.Ring{Kind: api.Tropical}, "inf", []string{"3", "0", "1099511627776", "1", "inf"}, [2]string{"3", "0"}},
		{api.Ring{Kind: api.Viterbi}, "0", []string{"1/2", "1", "2/3", "0"}, [2]string{"1/2", "2/3"}},
		{api.Ring{Kind: api.Sets}, "0000000000000000", []string{"000000000000000f", "00000000000000f0", "800000000000000c", "0000000000000000", "ffffffffffffffff"}, [2]string{"000000000000000f", "000000000000003c"}},
		{api.Ring{Kind: api.Polynomial}, "0", []string{"a+1/2", "-1/2", "c^5", "b-c", "1", "0", "-2*b"}, [2]string{"a+1/9", "b-1/9"}},
		{tuple(api.Rational, api.Tropical), "0|inf", []string{"1/2|3", "-1/2|inf", "0|0", "1|0", "0|inf", "-7/3|1099511627776"}, [2]string{"1/9|3", "-1/9|inf"}},
		{tuple(api.Rational, api.Rational), "0|0", []string{"1/2|-1/2", "1/2|0", "0|3", "1|-7", "-1/2|0", "0|0"}, [2]string{"1/9|0", "-1/9|1/9"}},
		{tuple(api.Viterbi, api.Sets, api.Polynomial), "0|0000000000000000|0", []string{"1/3|00000000000000ff|b+1/2", "0|0000000000000000|a", "1/2|0000000000000000|0", "0|0000000000000f00|-1/2", "1|ffffffffffffffff|1"}, [2]string{"1/3|00000000000000ff|b+1/9", "1/2|0000000000000ff0|-1/9"}},
	}
}

// rational is the ring of most examples.
func rational() api.Ring {
	return api.Ring{Kind: api.Rational}
}

// tuple returns a product of rings.
func tuple(kinds ...int) api.Ring {
	return api.Ring{Kind: api.Product, Parts: kinds}
}

// table returns 32 names: small letters, and then some capital ones.
func table() []string {
	return strings.Split("abcdefghijklmnopqrstuvwxyzABCDEF", "")
}

// parse reads an expression that a test relies on.
func parse(t *testing.T, r api.Ring, text string) []api.ENode {
	t.Helper()
	e, at, err := regex.Parse(r, table(), text)
	if err != api.OK {
		t.Fatalf("%v: %q: %v at %d", r, text, err, at)
	}
	return e
}

// shown returns the text of an expression, for messages.
func shown(r api.Ring, e []api.ENode) string {
	text, _ := regex.Format(r, table(), e)
	return text
}

// written returns the texts of weights, with spaces between them.
func written(r api.Ring, list []api.Weight) string {
	var out []string
	for _, w := range list {
		out = append(out, semiring.Format(r, w))
	}
	return strings.Join(out, " ")
}

// writtenArcs returns the texts of arcs, as in "0 a 1 1/2, 1 b 2 1".
func writtenArcs(a api.Auto) string {
	var out []string
	for _, x := range a.Arcs {
		out = append(out, strconv.Itoa(x.From)+" "+table()[x.Label-1]+" "+strconv.Itoa(x.To)+" "+semiring.Format(a.Ring, x.Weight))
	}
	return strings.Join(out, ", ")
}

// writtenAutomaton returns a text of an automaton, for messages.
func writtenAutomaton(a api.Auto) string {
	return strconv.Itoa(a.States) + " states, Initial " + written(a.Ring, a.Initial) + ", Final " + written(a.Ring, a.Final) + ", arcs " + writtenArcs(a)
}

// weightsOf returns what First and Last give an expression that has a series.
func weightsOf(t *testing.T, r api.Ring, symbols int, e []api.ENode) (first, last []api.Weight) {
	t.Helper()
	first, err := position.First(r, symbols, e)
	if err != api.OK {
		t.Fatalf("%v: First of %s: %v", r, shown(r, e), err)
	}
	last, err = position.Last(r, symbols, e)
	if err != api.OK || len(last) != len(first) {
		t.Fatalf("%v: Last of %s: %v, and %d elements", r, shown(r, e), err, len(last))
	}
	return first, last
}

// constantOf returns the weight of the empty word.
func constantOf(t *testing.T, r api.Ring, symbols int, e []api.ENode) api.Weight {
	t.Helper()
	w, err := regex.Constant(r, symbols, e)
	if err != api.OK {
		t.Fatalf("%v: %s: %v", r, shown(r, e), err)
	}
	return w
}

// hasSeries reports whether an expression has a series.
func hasSeries(r api.Ring, symbols int, e []api.ENode) bool {
	_, err := regex.Constant(r, symbols, e)
	return err == api.OK
}

// positionsOf returns the symbols of the positions.
func positionsOf(e []api.ENode) []int {
	var out []int
	for _, x := range e {
		if x.Op == api.ESymbol {
			out = append(out, x.Num)
		}
	}
	return out
}

// checkWords checks that words have the weights that the expression gives them.
func checkWords(t *testing.T, a api.Auto, e []api.ENode, words [][]int) {
	t.Helper()
	for _, word := range words {
		want, err := regex.Weight(a.Ring, a.Symbols, e, word)
		if err != api.OK {
			t.Fatalf("%v: %s and %v: %v", a.Ring, shown(a.Ring, e), word, err)
		}
		if got, err := weigh.Weight(a, word); err != api.OK || !semiring.Equal(got, want) {
			t.Errorf("%v: Automaton of %s gives %v the weight %s, %v, not %s", a.Ring, shown(a.Ring, e), word, semiring.Format(a.Ring, got), err, semiring.Format(a.Ring, want))
			return
		}
	}
}

// mustAutomaton returns the automaton of an expression, which has to be in normal form and to give words the right weights.
func mustAutomaton(t *testing.T, r api.Ring, symbols int, e []api.ENode, words [][]int) api.Auto {
	t.Helper()
	a, err := position.Automaton(r, symbols, e)
	if err != api.OK || !automaton.Valid(a) || !semiring.Same(a.Ring, r) || a.Symbols != symbols {
		t.Fatalf("%v: Automaton of %s is no automaton over %d symbols, %v", r, shown(r, e), symbols, err)
	}
	if n, err := automaton.Normal(a); err != api.OK || !automaton.Same(a, n) {
		t.Errorf("%v: Automaton of %s is not in normal form: %s", r, shown(r, e), writtenAutomaton(a))
	}
	checkWords(t, a, e, words)
	return a
}

// allWords returns all words over so many symbols with at most so many symbols.
func allWords(symbols, most int) [][]int {
	out := [][]int{nil}
	for i := 0; i < len(out) && len(out[i]) < most; i++ {
		for symbol := 1; symbol <= symbols; symbol++ {
			out = append(out, append(slices.Clone(out[i]), symbol))
		}
	}
	return out
}

// balanced returns a sum or a product of texts with as few levels as there may be.
func balanced(between string, list []string) string {
	if len(list) == 1 {
		return list[0]
	}
	return "(" + balanced(between, list[:len(list)/2]) + between + balanced(between, list[len(list)/2:]) + ")"
}

// symbolsFrom returns so many texts of symbols, in the order of the table.
func symbolsFrom(count int) []string {
	var out []string
	for i := range count {
		out = append(out, table()[i%32])
	}
	return out
}

// random returns the text of an expression over two symbols with exactly so many operations.
func random(source *rand.Rand, weights []string, size int) string {
	if size == 1 {
		return []string{"0", "1", "a", "b", "a", "b", "a", "b"}[source.Intn(8)]
	}
	if size == 2 || source.Intn(3) == 0 {
		operand := random(source, weights, size-1)
		if source.Intn(2) == 0 {
			return "(" + operand + ")*"
		}
		return "[" + weights[source.Intn(len(weights))] + "](" + operand + ")"
	}
	first := 1 + source.Intn(size-2)
	return "(" + random(source, weights, first) + []string{" + ", " "}[source.Intn(2)] + random(source, weights, size-1-first) + ")"
}

// allTexts returns the texts of all expressions with exactly so many operations over the symbols a and b and one factor, by numbers of operations.
func allTexts(weight string, most int) [][]string {
	out := [][]string{nil, {"0", "1", "a", "b"}}
	for size := 2; size <= most; size++ {
		var list []string
		for _, x := range out[size-1] {
			list = append(list, "["+weight+"]("+x+")", "("+x+")*")
		}
		for first := 1; first < size-1; first++ {
			for _, x := range out[first] {
				for _, y := range out[size-1-first] {
					list = append(list, "("+x+" + "+y+")", "("+x+") ("+y+")")
				}
			}
		}
		out = append(out, list)
	}
	return out
}
