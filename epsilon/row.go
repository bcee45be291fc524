package epsilon

import (
	"weighted/api"
	"weighted/polynomial"
	"weighted/rational"
	"weighted/semiring"
)

// row is a row of a star: the weights with which empty labels lead from one state to each of them. They are the factors times share. The numbers of the factors are whole, because sums of fractions with long denominators take far more time.
type row struct {
	ring    api.Ring
	factors []api.Weight
	share   api.Weight
}

// newRow returns the row of these weights.
func newRow(r api.Ring, weights []api.Weight) row {
	whole, share := measure(r, weights)
	out := row{ring: r, share: share}
	for _, w := range weights {
		out.factors = append(out.factors, semiring.Times(r, w, whole))
	}
	return out
}

// reached returns those of some arcs to whose starts empty labels lead.
func (r row) reached(arcs []api.Arc) []api.Arc {
	var leads []bool
	for _, w := range r.factors {
		leads = append(leads, !isZero(r.ring, w))
	}
	var out []api.Arc
	for _, x := range arcs {
		if leads[x.From] {
			out = append(out, x)
		}
	}
	return out
}

// total returns the sum of the weights of arcs, each of them times the weight with which empty labels lead to its start.
func (r row) total(arcs []api.Arc) api.Weight {
	sum := semiring.Zero(r.ring)
	for _, x := range arcs {
		sum = semiring.Plus(r.ring, sum, semiring.Times(r.ring, r.factors[x.From], x.Weight))
	}
	return semiring.Times(r.ring, sum, r.share)
}

// measure returns a weight that makes the numbers of other weights whole, as their common denominator does, and the one with which its product is One. Costs, chances and sets are not changed.
func measure(r api.Ring, weights []api.Weight) (whole, share api.Weight) {
	switch r.Kind {
	case api.Rational, api.Polynomial:
		den := denominator(weights)
		inverse, _ := rational.Div(one(), den)
		return constant(r, den), constant(r, inverse)
	case api.Product:
		for at, kind := range r.Parts {
			w, s := measure(api.Ring{Kind: kind}, part(weights, at))
			whole.Parts, share.Parts = append(whole.Parts, w), append(share.Parts, s)
		}
		return whole, share
	}
	return semiring.One(r), semiring.One(r)
}

// part returns one part of all tuples.
func part(tuples []api.Weight, at int) []api.Weight {
	var out []api.Weight
	for _, w := range tuples {
		out = append(out, w.Parts[at])
	}
	return out
}

// constant returns the weight of a number: the number itself, or a polynomial.
func constant(r api.Ring, q api.Rat) api.Weight {
	if r.Kind == api.Polynomial {
		return api.Weight{Poly: polynomial.Constant(q)}
	}
	return api.Weight{Q: q}
}

// denominator returns the least common denominator of numbers, or of the coefficients of polynomials.
func denominator(weights []api.Weight) api.Rat {
	den := one()
	add := func(q api.Rat) {
		if lacking := rational.Mul(q, den).Den; len(lacking) > 0 {
			den = rational.Mul(den, api.Rat{Num: lacking})
		}
	}
	for _, w := range weights {
		add(w.Q)
		for _, m := range w.Poly {
			add(m.Coef)
		}
	}
	return den
}

// one returns the number 1.
func one() api.Rat {
	return api.Rat{Num: []uint32{1}}
}
