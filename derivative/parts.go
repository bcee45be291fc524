package derivative

import (
	"slices"

	"weighted/api"
	"weighted/regex"
	"weighted/semiring"
)

// expression is an expression with its parts, and with the terms that have come up so far.
type expression struct {
	ring    api.Ring
	symbols int
	// parts are the expressions that begin with an operation of the whole one, which is the first of them.
	parts []part
	// terms are products of parts, and numbers are their places.
	terms   []term
	numbers map[term]int
	// sums are the derivatives of terms, as far as they are known.
	sums map[int][]summand
}

// part is a part of an expression, which is known by the place of its first operation.
type part struct {
	list     []api.ENode
	operands []int
	levels   int
	// constant is the weight of the empty word.
	constant api.Weight
	// The part is the product of scale and factors. No factor is a product or scaled itself, and equal ones have the same place.
	scale   api.Weight
	factors []int
}

// read returns an expression with its parts. Operands stand behind their operation, so that they are known before it is.
func read(r api.Ring, symbols int, e []api.ENode) (*expression, api.Errno) {
	if !regex.Valid(r, symbols, e) {
		return nil, api.ErrForm
	}
	x := &expression{
		ring:    r,
		symbols: symbols,
		parts:   make([]part, len(e)),
		terms:   make([]term, empty+1),
		numbers: map[term]int{},
		sums:    map[int][]summand{empty: nil},
	}
	for i := range slices.Backward(e) {
		p := x.cut(e[i:], i)
		c, err := x.constantOf(p)
		if err != api.OK {
			return nil, err
		}
		p.constant = c
		x.parts[i] = p
	}
	for i := range slices.Backward(e) {
		x.factor(i)
	}
	return x, api.OK
}

// cut returns the part at a place, which a list begins with, as far as the operations alone tell.
func (x *expression) cut(list []api.ENode, at int) part {
	p := part{levels: 1}
	size := 1
	for range arity(list[0].Op) {
		operand := x.parts[at+size]
		p.operands = append(p.operands, at+size)
		p.levels = max(p.levels, operand.levels+1)
		size += len(operand.list)
	}
	p.list = list[:size]
	return p
}

// arity returns how many operands an operation has.
func arity(op int) int {
	switch op {
	case api.EScale, api.EStar:
		return 1
	case api.ESum, api.EProduct:
		return 2
	}
	return 0
}

// constantOf returns the weight that a part gives the empty word. It depends on those of the operands alone, so that short expressions stand for these.
func (x *expression) constantOf(p part) (api.Weight, api.Errno) {
	short := []api.ENode{p.list[0]}
	for _, i := range p.operands {
		short = append(short, api.ENode{Op: api.EScale, Weight: x.parts[i].constant}, api.ENode{Op: api.EOne})
	}
	return regex.Constant(x.ring, x.symbols, short)
}

// factor sets scale and factors of a part, if those of its operands are set.
func (x *expression) factor(i int) {
	p := &x.parts[i]
	p.scale = semiring.One(x.ring)
	switch node := p.list[0]; node.Op {
	case api.EZero:
		p.scale = semiring.Zero(x.ring)
	case api.EOne:
	case api.EScale:
		operand := x.parts[p.operands[0]]
		p.scale, p.factors = x.times(node.Weight, operand.scale), operand.factors
	case api.EProduct:
		first, second := x.parts[p.operands[0]], x.parts[p.operands[1]]
		p.scale, p.factors = x.times(first.scale, second.scale), slices.Concat(first.factors, second.factors)
	default:
		p.factors = []int{x.firstEqual(p)}
	}
}

// firstEqual returns the place of the first part with the same operations.
func (x *expression) firstEqual(p *part) int {
	return slices.IndexFunc(x.parts, func(other part) bool { return slices.EqualFunc(other.list, p.list, sameNode) })
}

// sameNode reports whether all fields of two operations are equal.
func sameNode(v, w api.ENode) bool {
	return v.Op == w.Op && v.Num == w.Num && semiring.Equal(v.Weight, w.Weight)
}

// plus returns a sum of weights.
func (x *expression) plus(v, w api.Weight) api.Weight {
	return semiring.Plus(x.ring, v, w)
}

// times returns a product of weights.
func (x *expression) times(v, w api.Weight) api.Weight {
	return semiring.Times(x.ring, v, w)
}

// isZero reports whether a weight is Zero.
func (x *expression) isZero(w api.Weight) bool {
	return semiring.Equal(w, semiring.Zero(x.ring))
}
