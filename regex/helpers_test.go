package regex_test

import (
	"math/rand"
	"slices"
	"testing"

	"weighted/api"
	"weighted/regex"
	"weighted/semiring"
)

// ringCase is a ring with the texts of its weights Zero and One, of others, and of those without Star.
type ringCase struct {
	ring          api.Ring
	zero, one     string
	others, stuck []string
}

// ringCases returns a ring of each kind, and products. Some of their weights are Zero in one part alone, and some have a product that is Zero.
func ringCases() []ringCase {
	return []ringCase{
		{api.Ring{Kind: api.Rational}, "0", "1", []string{"1/2", "-1/3", "2", "-7/3", "0", "1", "123456789012345678901234567890/11"}, []string{"1", "-1", "2", "-7/3"}},
		{api.Ring{Kind: api.Tropical}, "inf", "0", []string{"0", "3", "1", "inf", "1099511627776", "1099511627770"}, nil},
		{api.Ring{Kind: api.Viterbi}, "0", "1", []string{"1", "1/2", "2/3", "0"}, nil},
		{api.Ring{Kind: api.Sets}, "0000000000000000", "ffffffffffffffff", []string{"000000000000000f", "00000000000000f0", "8000000000000001", "0000000000000000", "ffffffffffffffff"}, nil},
		{api.Ring{Kind: api.Polynomial}, "0", "1", []string{"a^5", "b-c", "1", "-a", "a*b+1/2", "0", "-2*b"}, []string{"1", "-1", "a+1", "-b-1", "c^5-3/2"}},
		{api.Ring{Kind: api.Product, Parts: []int{api.Rational, api.Tropical}}, "0|inf", "1|0", []string{"0|0", "1|inf", "1|0", "-1/2|3", "0|inf"}, []string{"1|0", "-1|inf", "3|7"}},
		{api.Ring{Kind: api.Product, Parts: []int{api.Rational, api.Rational}}, "0|0", "1|1", []string{"0|3", "3|0", "1/2|-1/2", "1/3|1/5"}, []string{"1|0", "0|1", "1/2|-1"}},
		{api.Ring{Kind: api.Product, Parts: []int{api.Viterbi, api.Sets, api.Polynomial}}, "0|0000000000000000|0", "1|ffffffffffffffff|1",
			[]string{"0|0000000000000000|a", "1/2|0000000000000000|0", "0|0000000000000f00|0", "1|ffffffffffffffff|1", "1/3|00000000000000ff|-b+1/2"}, []string{"0|0000000000000000|1", "1|ffffffffffffffff|a-1"}},
	}
}

// rational is the ring of most examples.
func rational() api.Ring {
	return api.Ring{Kind: api.Rational}
}

// noRings returns rings that are not valid.
func noRings() []api.Ring {
	return []api.Ring{
		{}, {Kind: -1}, {Kind: 7}, {Kind: api.Product}, {Kind: api.Rational, Parts: []int{api.Rational}},
		{Kind: api.Product, Parts: []int{api.Rational}}, {Kind: api.Product, Parts: []int{1, 2, 3, 4}},
		{Kind: api.Product, Parts: []int{api.Rational, api.Product}}, {Kind: api.Product, Parts: []int{api.Rational, 0}},
	}
}

// read reads a weight that a test relies on.
func read(t *testing.T, r api.Ring, text string) api.Weight {
	t.Helper()
	w, ok := semiring.Parse(r, text)
	if !ok {
		t.Fatalf("%v: no weight: %q", r, text)
	}
	return w
}

// expression is an expression as a tree.
type expression struct {
	node  api.ENode
	parts []*expression
}

// of returns an expression with an operation that needs no more than its operands.
func of(op int, parts ...*expression) *expression {
	return &expression{api.ENode{Op: op}, parts}
}

// letter returns a symbol.
func letter(symbol int) *expression {
	return &expression{api.ENode{Op: api.ESymbol, Num: symbol}, nil}
}

// scaled returns an expression with a factor.
func scaled(w api.Weight, part *expression) *expression {
	return &expression{api.ENode{Op: api.EScale, Weight: w}, []*expression{part}}
}

// list returns the operations in prefix order.
func (x *expression) list() []api.ENode {
	out := []api.ENode{x.node}
	for _, part := range x.parts {
		out = append(out, part.list()...)
	}
	return out
}

// text writes an expression. The operands that isClosed names by their places, as in operandTexts, and their operations are in brackets.
func (x *expression) text(r api.Ring, table []string, isClosed func(place string, op int) bool) string {
	part := func(i int, place string) string {
		text := x.parts[i].text(r, table, isClosed)
		if isClosed(place, x.parts[i].node.Op) {
			text = "(" + text + ")"
		}
		return text
	}
	switch x.node.Op {
	case api.EOne:
		return "1"
	case api.ESymbol:
		return table[x.node.Num-1]
	case api.EScale:
		return "[" + semiring.Format(r, x.node.Weight) + "]" + part(0, "[3]%")
	case api.ESum:
		return part(0, "% + q") + " + " + part(1, "q + %")
	case api.EProduct:
		return part(0, "% q") + " " + part(1, "q %")
	case api.EStar:
		return part(0, "%*") + "*"
	}
	return "0"
}

// balanced returns an expression of so many operations with as few levels as there may be.
func balanced(size int) *expression {
	switch size {
	case 1:
		return letter(1)
	case 2:
		return of(api.EStar, letter(1))
	}
	return of(api.ESum, balanced((size-1)/2), balanced(size-1-(size-1)/2))
}

// deep returns an expression of so many levels: sums, products, stars and factors within one another, as the first or the second operand.
func deep(levels int, second bool) *expression {
	x := letter(1)
	for i := range levels - 1 {
		op := []int{api.ESum, api.EProduct, api.EStar}[i%3]
		switch {
		case op == api.EStar:
			x = of(op, x)
		case second:
			x = of(op, letter(1), x)
		default:
			x = of(op, x, letter(1))
		}
	}
	return x
}

// random returns an expression over two symbols, with a number of levels that is at most a given one.
func random(t *testing.T, source *rand.Rand, s ringCase, levels int) *expression {
	t.Helper()
	part := func() *expression { return random(t, source, s, levels-1) }
	if levels <= 1 || source.Intn(8) == 0 {
		switch source.Intn(8) {
		case 0:
			return of(api.EZero)
		case 1:
			return of(api.EOne)
		}
		return letter(1 + source.Intn(2))
	}
	switch source.Intn(7) {
	case 0, 1:
		return of(api.ESum, part(), part())
	case 2, 3, 4:
		return of(api.EProduct, part(), part())
	case 5:
		return of(api.EStar, part())
	}
	return scaled(read(t, s.ring, s.others[source.Intn(len(s.others))]), part())
}

// sameLists compares all fields of two lists of operations.
func sameLists(e, f []api.ENode) bool {
	return slices.EqualFunc(e, f, func(x, y api.ENode) bool {
		return x.Op == y.Op && x.Num == y.Num && semiring.Equal(x.Weight, y.Weight)
	})
}

// mustParse reads an expression that a test relies on. Its symbols are a, b and c.
func mustParse(t *testing.T, r api.Ring, text string) []api.ENode {
	t.Helper()
	e, at, err := regex.Parse(r, []string{"a", "b", "c"}, text)
	if err != api.OK || at != 0 || !regex.Valid(r, 3, e) {
		t.Fatalf("%v: %q: %v, %v at %d", r, text, e, err, at)
	}
	return e
}

// shown returns the text of an expression over at most three symbols, for messages.
func shown(r api.Ring, e []api.ENode) string {
	text, _ := regex.Format(r, []string{"a", "b", "c"}, e)
	return text
}
