package position

import (
	"weighted/api"
	"weighted/semiring"
)

// calculator computes with the weights of a ring.
type calculator struct {
	ring api.Ring
}

// zero returns the weight Zero.
func (c calculator) zero() api.Weight {
	return semiring.Zero(c.ring)
}

// one returns the weight One.
func (c calculator) one() api.Weight {
	return semiring.One(c.ring)
}

// isZero reports whether a weight is Zero.
func (c calculator) isZero(w api.Weight) bool {
	return semiring.Equal(w, c.zero())
}

// plus returns a sum.
func (c calculator) plus(v, w api.Weight) api.Weight {
	return semiring.Plus(c.ring, v, w)
}

// times returns the product of two or more weights.
func (c calculator) times(v api.Weight, others ...api.Weight) api.Weight {
	for _, w := range others {
		v = semiring.Times(c.ring, v, w)
	}
	return v
}

// scaled returns a list of weights, each multiplied by a factor.
func (c calculator) scaled(factor api.Weight, list []api.Weight) []api.Weight {
	var out []api.Weight
	for _, w := range list {
		out = append(out, c.times(factor, w))
	}
	return out
}
