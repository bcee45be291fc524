package regex

import (
	"slices"

	"weighted/api"
	"weighted/semiring"
)

// course is an expression on its way along a word. Its lists have an element for each operation, about the expression that begins with this operation.
type course struct {
	ring      api.Ring
	zero, one api.Weight
	e         []api.ENode
	// sizes are the numbers of operations.
	sizes []int
	// constant are the weights of the empty word.
	constant []api.Weight
	// begun are the weights with which the symbols so far lead to where the expression begins, and ended those with which they lead to where it ends, if it has had at least one of them.
	begun, ended []api.Weight
}

// start returns the course of an expression in front of a word.
func start(r api.Ring, symbols int, e []api.ENode) (*course, api.Errno) {
	if !Valid(r, symbols, e) {
		return nil, api.ErrForm
	}
	c := &course{
		ring:     r,
		zero:     semiring.Zero(r),
		one:      semiring.One(r),
		e:        e,
		constant: make([]api.Weight, len(e)),
		begun:    make([]api.Weight, len(e)),
		ended:    make([]api.Weight, len(e)),
	}
	c.sizes, _, _ = measured(e)
	for i := range slices.Backward(e) {
		w, err := c.empty(i)
		if err != api.OK {
			return nil, err
		}
		c.constant[i], c.ended[i] = w, c.zero
	}
	return c, api.OK
}

// weight returns the weight of a word.
func (c *course) weight(word []int) api.Weight {
	if len(word) == 0 {
		return c.constant[0]
	}
	whole := c.one
	for _, symbol := range word {
		c.begin(whole)
		for i := range slices.Backward(c.e) {
			c.ended[i] = c.end(i, symbol)
		}
		whole = c.zero
	}
	return c.ended[0]
}

// operands returns where the operands of an operation begin, if it has them.
func (c *course) operands(i int) (first, second int) {
	first = i + 1
	if arity(c.e[i].Op) < 2 {
		return first, first
	}
	return first, first + c.sizes[first]
}

// empty returns a constant, if those of the operands are known.
func (c *course) empty(i int) (api.Weight, api.Errno) {
	first, second := c.operands(i)
	switch x := c.e[i]; x.Op {
	case api.EOne:
		return c.one, api.OK
	case api.EScale:
		return c.times(x.Weight, c.constant[first]), api.OK
	case api.ESum:
		return c.plus(c.constant[first], c.constant[second]), api.OK
	case api.EProduct:
		return c.times(c.constant[first], c.constant[second]), api.OK
	case api.EStar:
		return semiring.Star(c.ring, c.constant[first])
	}
	return c.zero, api.OK
}

// end returns what has ended behind one more symbol, if it is known of the operands.
func (c *course) end(i, symbol int) api.Weight {
	first, second := c.operands(i)
	switch x := c.e[i]; x.Op {
	case api.ESymbol:
		if x.Num == symbol {
			return c.begun[i]
		}
	case api.EScale:
		return c.times(x.Weight, c.ended[first])
	case api.ESum:
		return c.plus(c.ended[first], c.ended[second])
	case api.EProduct:
		// Where the first operand has ended, the second one may be the empty word.
		return c.plus(c.ended[second], c.times(c.ended[first], c.constant[second]))
	case api.EStar:
		return c.times(c.constant[i], c.ended[first])
	}
	return c.zero
}

// begin sets what begins behind the last symbol, from the weight with which the whole expression does.
func (c *course) begin(whole api.Weight) {
	c.begun[0] = whole
	for i, x := range c.e {
		first, second := c.operands(i)
		w := c.begun[i]
		switch x.Op {
		case api.EScale:
			c.begun[first] = w
		case api.ESum:
			c.begun[first], c.begun[second] = w, w
		case api.EProduct:
			c.begun[first] = w
			c.begun[second] = c.plus(c.ended[first], c.times(w, c.constant[first]))
		case api.EStar:
			// The operand begins where the star does, and again where it has ended.
			c.begun[first] = c.times(c.constant[i], c.plus(w, c.ended[first]))
		}
	}
}

// plus returns a sum, which may be one of the two weights itself. Most weights here are Zero or One, and package semiring would look at the other one again if that is a long number.
func (c *course) plus(v, w api.Weight) api.Weight {
	if semiring.Equal(v, c.zero) {
		return w
	}
	if semiring.Equal(w, c.zero) {
		return v
	}
	return semiring.Plus(c.ring, v, w)
}

// times returns a product in the same way.
func (c *course) times(v, w api.Weight) api.Weight {
	if semiring.Equal(v, c.zero) || semiring.Equal(w, c.one) {
		return v
	}
	if semiring.Equal(w, c.zero) || semiring.Equal(v, c.one) {
		return w
	}
	return semiring.Times(c.ring, v, w)
}

// copied returns a weight in new memory, because it may be a factor of the expression.
func (c *course) copied(w api.Weight) api.Weight {
	return semiring.Plus(c.ring, w, c.zero)
}
