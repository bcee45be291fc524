package position

import (
	"slices"

	"weighted/api"
	"weighted/regex"
	"weighted/semiring"
)

// part is an operation of an expression, with its operands.
type part struct {
	api.ENode
	operands []part
	// before is the number of positions in front of the part.
	before int
	// constant is the weight of the empty word.
	constant api.Weight
	// first and last are the weights with which words begin and end at each position of the part.
	first, last []api.Weight
}

// reader cuts a list of operations into parts.
type reader struct {
	calculator
	// rest is what is not read yet.
	rest []api.ENode
	// positions is the number of positions in front of rest.
	positions int
}

// read returns an expression as a part.
func read(r api.Ring, symbols int, e []api.ENode) (part, api.Errno) {
	// What Constant accepts is an expression in which each star exists.
	_, err := regex.Constant(r, symbols, e)
	if err != api.OK {
		return part{}, err
	}
	in := reader{calculator: calculator{r}, rest: e}
	return in.part(), api.OK
}

// part reads the next part.
func (in *reader) part() part {
	p := part{ENode: in.rest[0], before: in.positions}
	in.rest = in.rest[1:]
	switch p.Op {
	case api.ESymbol:
		in.positions++
	case api.EScale, api.EStar:
		p.operands = []part{in.part()}
	case api.ESum, api.EProduct:
		p.operands = []part{in.part(), in.part()}
	}
	in.weigh(&p)
	return p
}

// weigh sets the weights of a part, if its operands have theirs.
func (c calculator) weigh(p *part) {
	p.constant = c.zero()
	switch p.Op {
	case api.EOne:
		p.constant = c.one()
	case api.ESymbol:
		p.first, p.last = []api.Weight{c.one()}, []api.Weight{c.one()}
	case api.EScale:
		x := p.operands[0]
		p.constant = c.times(p.Weight, x.constant)
		// The factor is counted where words begin, so that no path counts it twice.
		p.first, p.last = c.scaled(p.Weight, x.first), x.last
	case api.ESum:
		x, y := p.operands[0], p.operands[1]
		p.constant = c.plus(x.constant, y.constant)
		p.first, p.last = slices.Concat(x.first, y.first), slices.Concat(x.last, y.last)
	case api.EProduct:
		x, y := p.operands[0], p.operands[1]
		p.constant = c.times(x.constant, y.constant)
		p.first = slices.Concat(x.first, c.scaled(x.constant, y.first))
		p.last = slices.Concat(c.scaled(y.constant, x.last), y.last)
	case api.EStar:
		x := p.operands[0]
		p.constant, _ = semiring.Star(c.ring, x.constant)
		p.first, p.last = c.scaled(p.constant, x.first), c.scaled(p.constant, x.last)
	}
}
