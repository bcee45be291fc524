package closure

import (
	"weighted/api"
	"weighted/semiring"
)

// times is Times for valid matrices of the same number of rows.
func times(r api.Ring, a, b [][]api.Weight) [][]api.Weight {
	switch r.Kind {
	case api.Rational, api.Polynomial:
		return combinations(r, a, b)
	case api.Product:
		return byParts(r, len(a), func(r api.Ring, at int) [][]api.Weight {
			return times(r, part(a, at), part(b, at))
		})
	}
	return build(len(a), func(i, j int) api.Weight {
		sum := semiring.Zero(r)
		for k, w := range a[i] {
			sum = semiring.Plus(r, sum, semiring.Times(r, w, b[k][j]))
		}
		return sum
	})
}

// combinations returns the product of matrices of numbers or of polynomials. Each of its rows is a sum of rows of b.
func combinations(r api.Ring, a, b [][]api.Weight) [][]api.Weight {
	rows := linesOf(r, b)
	var out []line
	for _, factors := range a {
		out = append(out, total(r, factors, rows))
	}
	return weightsOf(out)
}
