package closure

import (
	"weighted/api"
	"weighted/semiring"
)

// star is Star for a valid matrix that converges.
func star(r api.Ring, m [][]api.Weight) [][]api.Weight {
	switch r.Kind {
	case api.Rational, api.Polynomial:
		// The elimination succeeds because that of the absolute values does, whose numbers are not less than the absolute values of these.
		half, _ := eliminate(r, m)
		return weightsOf(half.solve())
	case api.Product:
		return byParts(r, len(m), func(r api.Ring, at int) [][]api.Weight { return star(r, part(m, at)) })
	}
	return powers(r, m)
}

// powers returns the sum of all powers, for the kinds in which One plus any weight is One: there a way that comes back to where it has been adds nothing.
func powers(r api.Ring, m [][]api.Weight) [][]api.Weight {
	s := build(len(m), func(i, j int) api.Weight {
		if i == j {
			return semiring.One(r)
		}
		return m[i][j]
	})
	for k := range s {
		for i := range s {
			for j := range s {
				s[i][j] = semiring.Plus(r, s[i][j], semiring.Times(r, s[i][k], s[k][j]))
			}
		}
	}
	return s
}
