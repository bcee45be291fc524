package compose

import (
	"iter"

	"weighted/api"
	"weighted/semiring"
)

// The last part of a state tells who has passed the last arc. While one transducer goes on alone, the other one does not, so that arcs whose label in the middle is empty are passed in one order only.
const (
	together = iota
	firstAlone
	secondAlone
	parts
)

// state is a state of a composition.
type state struct{ first, second, last int }

// step is what leads from one state of a composition to another: those arcs of two ways that have the same label in the middle, which is at least a certain one.
type step struct {
	from, to      state
	least         int
	first, second *way
}

// newStep returns the step on two ways from a state with a last part, or false if there is none.
func newStep(last int, v, w *way) (step, bool) {
	s := step{from: state{v.from, w.from, last}, to: state{v.to, w.to, together}, first: v, second: w}
	switch {
	case v.stays && w.stays:
		return s, false
	case w.stays:
		s.to.last = firstAlone
		return s, last != secondAlone
	case v.stays:
		s.to.last = secondAlone
		return s, last != firstAlone
	case last != together:
		s.least = 1
	}
	return s, true
}

// ahead yields the steps that lead from a state, each behind the other state to which it leads.
func (c *composition) ahead(at state) iter.Seq2[state, step] {
	return func(yield func(state, step) bool) {
		for _, v := range c.first.from[at.first] {
			for _, w := range c.second.from[at.second] {
				if s, ok := newStep(at.last, v, w); ok && !yield(s.to, s) {
					return
				}
			}
		}
	}
}

// back yields the steps that lead to a state, each behind the other state from which it leads.
func (c *composition) back(at state) iter.Seq2[state, step] {
	return func(yield func(state, step) bool) {
		for _, v := range c.first.to[at.first] {
			for _, w := range c.second.to[at.second] {
				for last := range parts {
					if s, ok := newStep(last, v, w); ok && s.to == at && !yield(s.from, s) {
						return
					}
				}
			}
		}
	}
}

// rows yields each row of the first way with each row of the second one.
func (s step) rows() iter.Seq2[[]api.TArc, []api.TArc] {
	return func(yield func(x, y []api.TArc) bool) {
		for _, x := range s.first.rows {
			for _, y := range s.second.rows {
				if !yield(x, y) {
					return
				}
			}
		}
	}
}

// products yields the products of the weights of those arcs of a row of each way that have the same label in the middle.
func (c *composition) products(s step, x, y []api.TArc) iter.Seq[api.Weight] {
	return func(yield func(api.Weight) bool) {
		for i, k := 0, 0; i < len(x) && k < len(y); {
			switch {
			case x[i].Out < y[k].Out || x[i].Out < s.least:
				i++
			case x[i].Out > y[k].Out:
				k++
			default:
				if !yield(semiring.Times(c.ring, x[i].Weight, y[k].Weight)) {
					return
				}
				i++
				k++
			}
		}
	}
}

// leads reports whether a step has an arc whose weight is not Zero.
func (c *composition) leads(s step) bool {
	for x, y := range s.rows() {
		for w := range c.products(s, x, y) {
			if !c.isZero(w) {
				return true
			}
		}
	}
	return false
}

// remains reports whether a step has an arc in the normal form.
func (c *composition) remains(s step) bool {
	for range c.arcs(s) {
		return true
	}
	return false
}

// arcs yields the arcs that a step has in the normal form, without their ends.
func (c *composition) arcs(s step) iter.Seq[api.TArc] {
	return func(yield func(api.TArc) bool) {
		for x, y := range s.rows() {
			sum := c.zero
			for w := range c.products(s, x, y) {
				sum = semiring.Plus(c.ring, sum, w)
			}
			if !c.isZero(sum) && !yield(api.TArc{In: x[0].In, Out: y[0].In, Weight: sum}) {
				return
			}
		}
	}
}
