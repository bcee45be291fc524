package compose

import (
	"cmp"
	"iter"
	"slices"

	"weighted/api"
	"weighted/models"
	"weighted/semiring"
)

// composition holds two transducers in normal form, and the ways of each.
type composition struct {
	ring          api.Ring
	zero          api.Weight
	m, n          api.Trans
	first, second side
}

// newComposition returns the composition of two transducers in normal form.
func newComposition(m, n api.Trans) *composition {
	r := m.Ring
	return &composition{ring: r, zero: semiring.Zero(r), m: m, n: n, first: newSide(r, m.States, m.Arcs), second: newSide(r, n.States, models.Turned(n.Arcs))}
}

// isZero reports whether a weight is Zero.
func (c *composition) isZero(w api.Weight) bool {
	return semiring.Equal(w, c.zero)
}

// initial returns the Initial of a state.
func (c *composition) initial(at state) api.Weight {
	if at.last != together {
		return c.zero
	}
	return semiring.Times(c.ring, c.m.Initial[at.first], c.n.Initial[at.second])
}

// final returns the Final of a state.
func (c *composition) final(at state) api.Weight {
	return semiring.Times(c.ring, c.m.Final[at.first], c.n.Final[at.second])
}

// starts returns the states whose Initial is not Zero, in ascending order.
func (c *composition) starts() []state {
	var out []state
	for p := range c.m.States {
		for q := range c.n.States {
			if at := (state{p, q, together}); !c.isZero(c.initial(at)) {
				out = append(out, at)
			}
		}
	}
	return out
}

// states returns the states that are useful, in the order in which they are found among the others, or false if too many are found or useful.
func (c *composition) states() ([]state, bool) {
	found, ok := follow(c.starts(), api.MaxPairs, c.ahead, c.leads)
	if !ok {
		return nil, false
	}
	// Arcs whose sum is Zero lead to states too, but what is useful is decided in the normal form.
	front, _ := follow(c.starts(), len(found), c.ahead, c.remains)
	inFront := setOf(front)
	isNoEnd := func(at state) bool { return c.isZero(c.final(at)) }
	useful, ok := follow(slices.DeleteFunc(front, isNoEnd), api.MaxStates, c.back, func(s step) bool { return inFront[s.from] && c.remains(s) })
	isUseful := setOf(useful)
	return slices.DeleteFunc(found, func(at state) bool { return !isUseful[at] }), ok
}

// follow returns some states, and those to which one comes from them by steps that pass a test, in the order in which they are found. It returns false if there are more than a number of them.
func follow(list []state, most int, steps func(state) iter.Seq2[state, step], test func(step) bool) ([]state, bool) {
	known := setOf(list)
	for i := 0; i < len(list) && len(list) <= most; i++ {
		before := len(list)
		for to, s := range steps(list[i]) {
			if !known[to] && test(s) {
				known[to] = true
				list = append(list, to)
			}
		}
		slices.SortFunc(list[before:], compareStates)
	}
	return list, len(list) <= most
}

// setOf returns the set of the elements of a list.
func setOf(list []state) map[state]bool {
	out := map[state]bool{}
	for _, at := range list {
		out[at] = true
	}
	return out
}

// compareStates compares states in the order in which they are found from one state.
func compareStates(x, y state) int {
	return cmp.Or(cmp.Compare(x.first, y.first), cmp.Compare(x.second, y.second), cmp.Compare(x.last, y.last))
}
