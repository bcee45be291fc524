package position

import "weighted/api"

// linker finds the arcs of the position automaton.
type linker struct {
	calculator
	// labels are the symbols of the positions.
	labels []int
	arcs   []api.Arc
}

// linkAll adds all arcs of an expression.
func (x *linker) linkAll(whole part) {
	for i, w := range whole.first {
		x.link(0, 1+i, w)
	}
	x.linkWithin(whole, x.zero())
}

// linkWithin adds the arcs between the positions of a part. The weight back is that with which the operations around the part lead from its end to its beginning again. Because Times distributes over Plus, this one weight stands for all of them, so that each pair of positions is linked once, by the innermost operation that contains both.
func (x *linker) linkWithin(p part, back api.Weight) {
	switch p.Op {
	case api.ESymbol:
		x.linkParts(p, p, back)
	case api.EScale:
		x.linkWithin(p.operands[0], x.times(p.Weight, back))
	case api.ESum:
		first, second := p.operands[0], p.operands[1]
		x.linkParts(first, second, back)
		x.linkParts(second, first, back)
		x.linkWithin(first, back)
		x.linkWithin(second, back)
	case api.EProduct:
		first, second := p.operands[0], p.operands[1]
		// The second operand follows the first one of the same product, or that of an earlier product whose second operand is the empty word, if this one's first operand is, too.
		x.linkParts(first, second, x.plus(x.one(), x.times(second.constant, back, first.constant)))
		x.linkParts(second, first, back)
		x.linkWithin(first, x.times(second.constant, back))
		x.linkWithin(second, x.times(back, first.constant))
	case api.EStar:
		// The operand follows itself within the same star, or from one star to the next one.
		x.linkWithin(p.operands[0], x.plus(p.constant, x.times(p.constant, back, p.constant)))
	}
}

// linkParts adds an arc from each position of a part to each one of another part that begins, with some weight, where the first one ends.
func (x *linker) linkParts(from, to part, w api.Weight) {
	for i, last := range x.scaled(w, from.last) {
		for j, first := range to.first {
			x.link(1+from.before+i, 1+to.before+j, x.times(last, first))
		}
	}
}

// link adds an arc, unless its weight is Zero.
func (x *linker) link(from, to int, w api.Weight) {
	if !x.isZero(w) {
		x.arcs = append(x.arcs, api.Arc{From: from, Label: x.labels[to-1], To: to, Weight: w})
	}
}
