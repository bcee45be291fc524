package derivative_test

import (
	"math/rand"
	"slices"
	"testing"

	"weighted/api"
	"weighted/derivative"
	"weighted/regex"
	"weighted/semiring"
)

// ringCase is a ring with the texts of its weights Zero and One, of others, and of some that have the sum Zero.
type ringCase struct {
	ring            api.Ring
	zero, one       string
	others, opposed []string
}

// ringCases returns a ring of each kind, and products. Some of their weights are Zero in one part alone, and some have a product that is Zero.
func ringCases() []ringCase {
	return []ringCase{
		{api.Ring{Kind: api.Rational}, "0", "1", []string{"1/2", "-1/3", "2", "-7/3", "0", "1", "123456789012345678901234567890/11"}, []string{"1/2", "1/3", "-5/6"}},
		{api.Ring{Kind: api.Tropical}, "inf", "0", []string{"0", "3", "1", "inf", "1099511627776", "1099511627770"}, []string{"inf", "inf"}},
		{api.Ring{Kind: api.Viterbi}, "0", "1", []string{"1", "1/2", "2/3", "0"}, []string{"0", "0"}},
		{api.Ring{Kind: api.Sets}, "0000000000000000", "ffffffffffffffff", []string{"000000000000000f", "00000000000000f0", "8000000000000001", "0000000000000000", "ffffffffffffffff"}, []string{"0000000000000000"}},
		{api.Ring{Kind: api.Polynomial}, "0", "1", []string{"a^5", "b-c", "1", "-a", "a*b+1/2", "0", "-2*b"}, []string{"a+1", "-a", "-1"}},
		{api.Ring{Kind: api.Product, Parts: []int{api.Rational, api.Tropical}}, "0|inf", "1|0", []string{"0|0", "1|inf", "1|0", "-1/2|3", "0|inf"}, []string{"1/2|inf", "-1/2|inf"}},
		{api.Ring{Kind: api.Product, Parts: []int{api.Rational, api.Rational}}, "0|0", "1|1", []string{"0|3", "3|0", "1/2|-1/2", "1/3|1/5"}, []string{"1|2", "-1|0", "0|-2"}},
		{api.Ring{Kind: api.Product, Parts: []int{api.Viterbi, api.Sets, api.Polynomial}}, "0|0000000000000000|0", "1|ffffffffffffffff|1",
			[]string{"0|0000000000000000|a", "1/2|0000000000000000|0", "0|0000000000000f00|0", "1|ffffffffffffffff|1", "1/3|00000000000000ff|-b+1/2"}, []string{"0|0000000000000000|-b", "0|0000000000000000|b"}},
	}
}

// rational is the ring of most examples.
func rational() api.Ring {
	return api.Ring{Kind: api.Rational}
}

// noRings returns rings that are not valid.
func noRings() []api.Ring {
	return []api.Ring{
		{}, {Kind: -1}, {Kind: 7}, {Kind: api.Product}, {Kind: api.Rational, Parts: []int{api.Rational}},
		{Kind: api.Product, Parts: []int{api.Rational}}, {Kind: api.Product, Parts: []int{1, 2, 3, 4}}, {Kind: api.Product, Parts: []int{api.Rational, api.Product}},
	}
}

// read reads a weight that a test relies on.
func read(t *testing.T, r api.Ring, text string) api.Weight {
	t.Helper()
	w, ok := semiring.Parse(r, text)
	if !ok {
		t.Fatalf("%v: no weight: %q", r, text)
	}
	return w
}

// mustParse reads an expression that a test relies on. Its symbols are a, b and c.
func mustParse(t *testing.T, r api.Ring, text string) []api.ENode {
	t.Helper()
	e, at, err := regex.Parse(r, []string{"a", "b", "c"}, text)
	if err != api.OK {
		t.Fatalf("%v: %q: %v at %d", r, text, err, at)
	}
	return e
}

// shown returns the text of an expression over at most three symbols, for messages.
func shown(r api.Ring, e []api.ENode) string {
	text, _ := regex.Format(r, []string{"a", "b", "c"}, e)
	return text
}

// letters reads a word whose symbols are written as a, b, c and so on, without spaces.
func letters(text string) []int {
	var word []int
	for _, c := range text {
		word = append(word, int(c-'a')+1)
	}
	return word
}

// of returns an expression with an operation and its operands.
func of(op int, operands ...[]api.ENode) []api.ENode {
	return slices.Concat(append([][]api.ENode{{{Op: op}}}, operands...)...)
}

// letter returns a symbol as an expression.
func letter(symbol int) []api.ENode {
	return []api.ENode{{Op: api.ESymbol, Num: symbol}}
}

// scaled returns an expression with a factor.
func scaled(w api.Weight, e []api.ENode) []api.ENode {
	return append([]api.ENode{{Op: api.EScale, Weight: w}}, e...)
}

// nested returns an expression within so many stars, each with a factor.
func nested(stars int, w api.Weight, e []api.ENode) []api.ENode {
	for range stars {
		e = of(api.EStar, scaled(w, e))
	}
	return e
}

// balanced returns the sum or the product of some expressions with as few levels as there may be.
func balanced(op int, list [][]api.ENode) []api.ENode {
	if len(list) == 1 {
		return list[0]
	}
	return of(op, balanced(op, list[:len(list)/2]), balanced(op, list[len(list)/2:]))
}

// different returns so many expressions over Rational with one symbol each, all of them different: stars with factors.
func different(count int) [][]api.ENode {
	var out [][]api.ENode
	for i := range count {
		w := api.Weight{Q: api.Rat{Num: []uint32{1}, Den: []uint32{uint32(1000 + i)}}}
		out = append(out, of(api.EStar, scaled(w, letter(1+i%api.MaxSymbols))))
	}
	return out
}

// random returns an expression over two symbols with exactly so many operations and at most so many levels. The weights are from a list.
func random(t *testing.T, source *rand.Rand, r api.Ring, weights []string, size, levels int) []api.ENode {
	t.Helper()
	if size == 1 {
		switch source.Intn(8) {
		case 0:
			return of(api.EZero)
		case 1:
			return of(api.EOne)
		}
		return letter(1 + source.Intn(2))
	}
	room := 1<<min(levels-1, 20) - 1
	if size == 2 || source.Intn(4) == 0 && size-1 <= 1<<min(levels-2, 20)-1 {
		operand := random(t, source, r, weights, size-1, levels-1)
		if source.Intn(2) == 0 {
			return of(api.EStar, operand)
		}
		return scaled(read(t, r, weights[source.Intn(len(weights))]), operand)
	}
	least, most := max(1, size-1-room), min(size-2, room)
	first := least + source.Intn(most-least+1)
	op := api.ESum + source.Intn(2)
	return of(op, random(t, source, r, weights, first, levels-1), random(t, source, r, weights, size-1-first, levels-1))
}

// allWords returns all words over so many symbols with at most so many symbols.
func allWords(symbols, most int) [][]int {
	out := [][]int{nil}
	for i := 0; i < len(out) && len(out[i]) < most; i++ {
		for symbol := 1; symbol <= symbols; symbol++ {
			out = append(out, append(slices.Clone(out[i]), symbol))
		}
	}
	return out
}

// hasSeries reports whether an expression, which is valid, has a series.
func hasSeries(t *testing.T, r api.Ring, symbols int, e []api.ENode) bool {
	t.Helper()
	_, err := regex.Constant(r, symbols, e)
	if err != api.OK && err != api.ErrStar {
		t.Fatalf("%v: %v: %v", r, e, err)
	}
	return err == api.OK
}

// mustWeight returns the weight that an expression gives a word.
func mustWeight(t *testing.T, r api.Ring, symbols int, e []api.ENode, word []int) api.Weight {
	t.Helper()
	w, err := regex.Weight(r, symbols, e, word)
	if err != api.OK {
		t.Fatalf("%v: %s and %v: %v", r, shown(r, e), word, err)
	}
	return w
}

// mustDerive returns a derivative, which is valid.
func mustDerive(t *testing.T, r api.Ring, symbols int, e []api.ENode, symbol int) []api.ENode {
	t.Helper()
	d, err := derivative.Derive(r, symbols, e, symbol)
	if err != api.OK || !regex.Valid(r, symbols, d) {
		t.Fatalf("%v: the derivative of %s by %d is %v, %v", r, shown(r, e), symbol, d, err)
	}
	return d
}

// checkSeries checks that a derivative by a symbol gives words the weights that an expression gives them with the symbol in front.
func checkSeries(t *testing.T, r api.Ring, symbols int, e []api.ENode, symbol int, d []api.ENode, words [][]int) {
	t.Helper()
	for _, word := range words {
		want := mustWeight(t, r, symbols, e, append([]int{symbol}, word...))
		if got := mustWeight(t, r, symbols, d, word); !semiring.Equal(got, want) {
			t.Errorf("%v: the derivative of %s by %d is %s, which gives %v the weight %s, not %s", r, shown(r, e), symbol, shown(r, d), word, semiring.Format(r, got), semiring.Format(r, want))
			return
		}
	}
}

// checkDerivatives checks the derivatives by all symbols. It reports whether one of them is ErrLimit, which is allowed only for an expression of more than 16 operations.
func checkDerivatives(t *testing.T, r api.Ring, symbols int, e []api.ENode, words [][]int) (isLimit bool) {
	t.Helper()
	for symbol := 1; symbol <= symbols; symbol++ {
		d, err := derivative.Derive(r, symbols, e, symbol)
		if err == api.ErrLimit && len(e) > 16 && len(d) == 0 {
			isLimit = true
			continue
		}
		if err != api.OK || !regex.Valid(r, symbols, d) {
			t.Errorf("%v: the derivative of %v by %d is %v, %v", r, e, symbol, d, err)
			return isLimit
		}
		checkSeries(t, r, symbols, e, symbol, d, words)
	}
	return isLimit
}
