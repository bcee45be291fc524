package closure

import (
	"weighted/api"
	"weighted/polynomial"
	"weighted/rational"
	"weighted/semiring"
)

// line is a row of a matrix of numbers or of polynomials: its entries divided by den. All coefficients of the entries are whole numbers, and they and den have no divisor in common. With fractions instead, each single sum or product would have to find the common divisor of two long numbers.
type line struct {
	ring    api.Ring
	den     api.Rat
	entries []api.Weight
}

// linesOf returns the rows of a matrix.
func linesOf(r api.Ring, m [][]api.Weight) []line {
	var out []line
	for _, row := range m {
		out = append(out, newLine(r, row, one()))
	}
	return out
}

// weightsOf returns the matrix with these rows.
func weightsOf(rows []line) [][]api.Weight {
	return build(len(rows), func(i, j int) api.Weight { return rows[i].weight(j) })
}

// newLine returns the line of these weights, each divided by the same whole number, which is greater than 0.
func newLine(r api.Ring, weights []api.Weight, by api.Rat) line {
	l := line{ring: r, den: one()}
	share, _ := rational.Div(l.den, by)
	for _, w := range weights {
		w = scaled(r, w, share)
		if lacking := denominator(w); rational.Compare(lacking, one()) > 0 {
			for i, entry := range l.entries {
				l.entries[i] = scaled(r, entry, lacking)
			}
			w = scaled(r, w, lacking)
			l.den = rational.Mul(l.den, lacking)
			share = rational.Mul(share, lacking)
		}
		l.entries = append(l.entries, w)
	}
	return l
}

// total returns the sum of lines of the same length, each of them times its factor.
func total(r api.Ring, factors []api.Weight, lines []line) line {
	var shares []api.Weight
	for i, factor := range factors {
		shares = append(shares, lines[i].share(factor))
	}
	whole := newLine(r, shares, one())
	sums := make([]api.Weight, len(lines[0].entries))
	for i, factor := range whole.entries {
		if isZero(r, factor) {
			continue
		}
		for j, w := range lines[i].entries {
			sums[j] = semiring.Plus(r, sums[j], semiring.Times(r, factor, w))
		}
	}
	return newLine(r, sums, whole.den)
}

// share returns a weight divided by den.
func (l line) share(w api.Weight) api.Weight {
	part, _ := rational.Div(one(), l.den)
	return scaled(l.ring, w, part)
}

// weight returns the weight of a column.
func (l line) weight(column int) api.Weight {
	return l.share(l.entries[column])
}

// scaled returns the product of a number or a polynomial with a number.
func scaled(r api.Ring, w api.Weight, by api.Rat) api.Weight {
	if r.Kind == api.Polynomial {
		return api.Weight{Poly: polynomial.Scale(w.Poly, by)}
	}
	return api.Weight{Q: rational.Mul(w.Q, by)}
}

// isZero reports whether a weight is Zero.
func isZero(r api.Ring, w api.Weight) bool {
	return semiring.Equal(w, semiring.Zero(r))
}

// denominator returns the least common denominator of a number, or of the coefficients of a polynomial.
func denominator(w api.Weight) api.Rat {
	// A polynomial has the number 0 in Q.
	numbers := []api.Rat{w.Q}
	for _, m := range w.Poly {
		numbers = append(numbers, m.Coef)
	}
	den := one()
	for _, q := range numbers {
		if lacking := rational.Mul(q, den).Den; len(lacking) > 0 {
			den = rational.Mul(den, api.Rat{Num: lacking})
		}
	}
	return den
}

// one returns the number 1.
func one() api.Rat {
	return api.Rat{Num: []uint32{1}}
}
