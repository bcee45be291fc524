package closure

import (
	"weighted/api"
	"weighted/polynomial"
	"weighted/rational"
)

// converges is Converges for a valid matrix.
func converges(r api.Ring, m [][]api.Weight) bool {
	switch r.Kind {
	case api.Rational:
		return succeeds(m, func(w api.Weight) api.Rat { return w.Q })
	case api.Polynomial:
		return succeeds(m, func(w api.Weight) api.Rat { return polynomial.Lowest(w.Poly) })
	case api.Product:
		for at, kind := range r.Parts {
			if !converges(api.Ring{Kind: kind}, part(m, at)) {
				return false
			}
		}
	}
	return true
}

// succeeds reports whether the elimination of the absolute values of the numbers of all weights succeeds.
func succeeds(m [][]api.Weight, number func(w api.Weight) api.Rat) bool {
	_, ok := eliminate(api.Ring{Kind: api.Rational}, build(len(m), func(i, j int) api.Weight {
		return api.Weight{Q: rational.Abs(number(m[i][j]))}
	}))
	return ok
}
