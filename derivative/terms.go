package derivative

import (
	"slices"

	"weighted/api"
	"weighted/semiring"
)

// term is a product of parts: its first factor and the number of the term that the others are.
type term struct {
	factor, rest int
}

// empty is the number of the term without factors, which gives only the empty word a weight.
const empty = 0

// summand is a symbol and, with a weight, a term for what may stand behind this symbol.
type summand struct {
	symbol, term int
	weight       api.Weight
}

// term returns the number of the term with some factors in front of another term.
func (x *expression) term(factors []int, rest int) int {
	for _, factor := range slices.Backward(factors) {
		t := term{factor, rest}
		n, isKnown := x.numbers[t]
		if !isKnown {
			n = len(x.terms)
			x.terms = append(x.terms, t)
			x.numbers[t] = n
		}
		rest = n
	}
	return rest
}

// factors returns the factors of a term.
func (x *expression) factors(n int) []int {
	var out []int
	for ; n != empty; n = x.terms[n].rest {
		out = append(out, x.terms[n].factor)
	}
	return out
}

// constant returns the weight that a term gives the empty word.
func (x *expression) constant(n int) api.Weight {
	w := semiring.One(x.ring)
	for _, i := range x.factors(n) {
		w = x.times(w, x.parts[i].constant)
	}
	return w
}

// behind returns what may stand behind a symbol in the whole expression.
func (x *expression) behind(symbol int) []summand {
	var sum []summand
	x.open(0, semiring.One(x.ring), empty, func(s summand) {
		if s.symbol == symbol {
			sum = x.added(sum, s)
		}
	})
	return x.withoutZeros(sum)
}

// derived returns what may stand behind each symbol in a term. Many terms have the same rest, so that sums are kept.
func (x *expression) derived(n int) []summand {
	sum, isKnown := x.sums[n]
	if isKnown {
		return sum
	}
	t := x.terms[n]
	add := func(s summand) { sum = x.added(sum, s) }
	x.open(t.factor, semiring.One(x.ring), t.rest, add)
	for _, s := range x.derived(t.rest) {
		s.weight = x.times(x.parts[t.factor].constant, s.weight)
		add(s)
	}
	sum = x.withoutZeros(sum)
	x.sums[n] = sum
	return sum
}

// open finds the symbols that words begin with in a part which has a weight and has a term behind it, and calls take with each of them.
func (x *expression) open(i int, w api.Weight, rest int, take func(summand)) {
	p := x.parts[i]
	switch node := p.list[0]; node.Op {
	case api.ESymbol:
		take(summand{symbol: node.Num, term: rest, weight: w})
	case api.EScale:
		x.open(p.operands[0], x.times(w, node.Weight), rest, take)
	case api.ESum:
		x.open(p.operands[0], w, rest, take)
		x.open(p.operands[1], w, rest, take)
	case api.EProduct:
		first, second := x.parts[p.operands[0]], x.parts[p.operands[1]]
		x.open(p.operands[0], x.times(w, second.scale), x.term(second.factors, rest), take)
		x.open(p.operands[1], x.times(w, first.constant), rest, take)
	case api.EStar:
		x.open(p.operands[0], x.times(w, p.constant), x.term(p.factors, rest), take)
	}
}

// added returns a sum with one more summand. Those with the same symbol and the same term are one.
func (x *expression) added(sum []summand, s summand) []summand {
	i := slices.IndexFunc(sum, func(other summand) bool { return other.symbol == s.symbol && other.term == s.term })
	if i < 0 {
		return append(sum, s)
	}
	sum[i].weight = x.plus(sum[i].weight, s.weight)
	return sum
}

// withoutZeros returns a sum without the summands that have the weight Zero.
func (x *expression) withoutZeros(sum []summand) []summand {
	return slices.DeleteFunc(sum, func(s summand) bool { return x.isZero(s.weight) })
}
