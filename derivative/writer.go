package derivative

import (
	"slices"

	"weighted/api"
	"weighted/semiring"
)

// product is a product of parts with a weight.
type product struct {
	weight  api.Weight
	factors []int
}

// written is an expression with the number of its levels.
type written struct {
	list   []api.ENode
	levels int
}

// write returns an expression for a sum, in new memory. All terms of the sum are different.
func (x *expression) write(sum []summand) []api.ENode {
	if len(sum) == 0 {
		return []api.ENode{{Op: api.EZero}}
	}
	var products []product
	for _, s := range sum {
		products = append(products, product{s.weight, x.factors(s.term)})
	}
	w, out := x.writeSum(products)
	return x.copied(x.scaled(w, out).list)
}

// writeSum returns an expression for a sum of products, and a weight by which it is still to be multiplied. What several products end with is written once: only so are the derivatives of 16 operations, of which those of nested stars are the largest, never too large.
func (x *expression) writeSum(products []product) (api.Weight, written) {
	if len(products) == 1 {
		return products[0].weight, x.writeProduct(products[0].factors)
	}
	if n := commonEnd(products); n > 0 {
		front, end := cutEnds(products, n)
		w, out := x.writeSum(front)
		return w, joined(api.EProduct, append([]written{out}, x.writeFactors(end)...))
	}
	var weights []api.Weight
	var operands []written
	for _, group := range groups(products) {
		w, out := x.writeSum(group)
		weights, operands = append(weights, w), append(operands, out)
	}
	if areEqual(weights) {
		return weights[0], joined(api.ESum, operands)
	}
	for i, w := range weights {
		operands[i] = x.scaled(w, operands[i])
	}
	return semiring.One(x.ring), joined(api.ESum, operands)
}

// writeProduct returns an expression for a product.
func (x *expression) writeProduct(factors []int) written {
	if len(factors) == 0 {
		return written{[]api.ENode{{Op: api.EOne}}, 1}
	}
	return joined(api.EProduct, x.writeFactors(factors))
}

// writeFactors returns an expression for each factor.
func (x *expression) writeFactors(factors []int) []written {
	var out []written
	for _, i := range factors {
		out = append(out, written{x.parts[i].list, x.parts[i].levels})
	}
	return out
}

// scaled returns an expression with a weight.
func (x *expression) scaled(w api.Weight, operand written) written {
	if semiring.Equal(w, semiring.One(x.ring)) {
		return operand
	}
	scale := []api.ENode{{Op: api.EScale, Weight: w}}
	return written{slices.Concat(scale, operand.list), operand.levels + 1}
}

// copied returns operations in new memory.
func (x *expression) copied(e []api.ENode) []api.ENode {
	var out []api.ENode
	for _, node := range e {
		fresh := api.ENode{Op: node.Op, Num: node.Num}
		if node.Op == api.EScale {
			fresh.Weight = x.plus(node.Weight, semiring.Zero(x.ring))
		}
		out = append(out, fresh)
	}
	return out
}

// joined returns the sum or the product of one or more expressions. The neighbours with the fewest levels are joined first, so that deep ones do not become much deeper.
func joined(op int, operands []written) written {
	for len(operands) > 1 {
		at := 0
		for i := range len(operands) - 1 {
			if pairLevels(operands[i:]) < pairLevels(operands[at:]) {
				at = i
			}
		}
		pair := slices.Concat([]api.ENode{{Op: op}}, operands[at].list, operands[at+1].list)
		operands = slices.Replace(operands, at, at+2, written{pair, pairLevels(operands[at:])})
	}
	return operands[0]
}

// pairLevels returns the number of levels that the first two expressions of a list have together.
func pairLevels(list []written) int {
	return 1 + max(list[0].levels, list[1].levels)
}

// commonEnd returns the number of factors that all products end with.
func commonEnd(products []product) int {
	n := len(products[0].factors)
	for _, p := range products {
		n = min(n, equalAtEnd(p.factors, products[0].factors))
	}
	return n
}

// equalAtEnd returns the number of elements that both lists end with.
func equalAtEnd(v, w []int) int {
	n := 0
	for n < min(len(v), len(w)) && v[len(v)-1-n] == w[len(w)-1-n] {
		n++
	}
	return n
}

// cutEnds returns products without the factors that all of them end with, so many, and these.
func cutEnds(products []product, n int) (front []product, end []int) {
	for _, p := range products {
		at := len(p.factors) - n
		front = append(front, product{p.weight, p.factors[:at]})
		end = p.factors[at:]
	}
	return front, end
}

// groups returns the products that end with the same factor together, in the order of the first ones.
func groups(products []product) [][]product {
	var out [][]product
	for _, p := range products {
		i := slices.IndexFunc(out, func(group []product) bool { return equalAtEnd(group[0].factors, p.factors) > 0 })
		if i < 0 {
			out = append(out, []product{p})
		} else {
			out[i] = append(out[i], p)
		}
	}
	return out
}

// areEqual reports whether all weights are the same.
func areEqual(weights []api.Weight) bool {
	return !slices.ContainsFunc(weights, func(w api.Weight) bool { return !semiring.Equal(w, weights[0]) })
}
