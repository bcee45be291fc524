package closure_test

import (
	"math/big"
	"math/rand"
	"slices"
	"testing"

	"weighted/api"
	"weighted/closure"
	"weighted/semiring"
)

func TestStarsByHand(t *testing.T) {
	tropical, sets, polynomials := api.Ring{Kind: api.Tropical}, api.Ring{Kind: api.Sets}, api.Ring{Kind: api.Polynomial}
	for _, x := range []struct {
		ring    api.Ring
		m, star string
	}{
		{rational(), "0", "1"},
		{rational(), "1/2", "2"},
		{rational(), "-1/2", "2/3"},
		{rational(), "99/100", "100"},
		{rational(), "0 1/2; 1/2 0", "4/3 2/3; 2/3 4/3"},
		{rational(), "0 -1/2; 1/2 0", "4/5 -2/5; 2/5 4/5"},
		{rational(), "1/2 1/4; 0 1/3", "2 3/4; 0 3/2"},
		{rational(), "0 5; 0 0", "1 5; 0 1"},
		{rational(), "0 0; -7/3 0", "1 0; -7/3 1"},
		{rational(), "0 2 0; 0 0 3; 0 0 0", "1 2 6; 0 1 3; 0 0 1"},
		{rational(), "0 0 0; 2 0 0; 0 3 0", "1 0 0; 2 1 0; 6 3 1"},
		{rational(), "0 1/2 0; 0 0 1/2; 2 0 0", "2 1 1/2; 2 2 1; 4 2 2"},
		{rational(), "0 0 0; 0 0 0; 0 0 1/3", "1 0 0; 0 1 0; 0 0 3/2"},
		{tropical, "5", "0"},
		{tropical, "inf", "0"},
		{tropical, "0 1; 1 0", "0 1; 1 0"},
		{tropical, "inf 3 9; inf inf 4; 1 inf inf", "0 3 7; 5 0 4; 1 4 0"},
		{tropical, "inf 1099511627776 inf; inf inf 1; inf inf inf", "0 1099511627776 inf; inf 0 1; inf inf 0"},
		{tropical, "inf 1099511627775 inf; inf inf 1; inf inf inf", "0 1099511627775 1099511627776; inf 0 1; inf inf 0"},
		{api.Ring{Kind: api.Viterbi}, "1/2 1/3; 0 1", "1 1/3; 0 1"},
		{api.Ring{Kind: api.Viterbi}, "0 1/2 1/5; 0 0 1/2; 1 0 0", "1 1/2 1/4; 1/2 1 1/2; 1 1/2 1"},
		{sets, "0000000000000000 000000000000000f; 0000000000000000 0000000000000000", "ffffffffffffffff 000000000000000f; 0000000000000000 ffffffffffffffff"},
		{sets, "0000000000000000 000000000000000f 0000000000000000; 0000000000000000 0000000000000000 000000000000003c; 0000000000000000 0000000000000000 0000000000000000", "ffffffffffffffff 000000000000000f 000000000000000c; 0000000000000000 ffffffffffffffff 000000000000003c; 0000000000000000 0000000000000000 ffffffffffffffff"},
		{polynomials, "a", "a^5+a^4+a^3+a^2+a+1"},
		{polynomials, "a+1/2", "64*a^5+32*a^4+16*a^3+8*a^2+4*a+2"},
		{polynomials, "0 a; b 0", "a^2*b^2+a*b+1 a^3*b^2+a^2*b+a; a^2*b^3+a*b^2+b a^2*b^2+a*b+1"},
		{polynomials, "0 a^3; b^3 0", "1 a^3; b^3 1"},
		{polynomials, "1/2 c; 0 0", "2 2*c; 0 1"},
		{tuple(api.Rational, api.Tropical), "1/2|7", "2|0"},
		{tuple(api.Rational, api.Tropical), "0|inf 1/2|3; 1/2|inf 0|1", "4/3|0 2/3|3; 2/3|inf 4/3|0"},
		{tuple(api.Rational, api.Rational), "0|0 1|0; 0|1 0|0", "1|1 1|0; 0|1 1|1"},
	} {
		if got := shown(x.ring, mustStar(t, x.ring, parse(t, x.ring, x.m))); got != x.star {
			t.Errorf("%v: Star of %s is %s, not %s", x.ring, x.m, got, x.star)
		}
	}
}

func TestStarsAtRandom(t *testing.T) {
	source := rand.New(rand.NewSource(7))
	for _, c := range ringCases() {
		for n := range 6 {
			for range 8 {
				check(t, c.ring, picked(t, source, c.ring, n, c.small))
				check(t, c.ring, picked(t, source, c.ring, n, append(append(c.wide, c.small...), c.small...)))
			}
		}
	}
}

func TestStarsOfAllSmallMatrices(t *testing.T) {
	for _, c := range ringCases() {
		texts := c.small[:min(len(c.small), 4)]
		if len(c.wide) > 0 {
			texts = append(slices.Clone(texts[:3]), c.wide[0])
		}
		var weights []api.Weight
		for _, text := range texts {
			weights = append(weights, parse(t, c.ring, text)[0][0])
		}
		each(len(weights), 4, func(at []int) {
			check(t, c.ring, square(2, func(i, j int) api.Weight { return weights[at[2*i+j]] }))
		})
	}
}

func TestStarsInAnyOrder(t *testing.T) {
	source := rand.New(rand.NewSource(8))
	for _, c := range ringCases() {
		for range 12 {
			n := 2 + source.Intn(4)
			m, order := picked(t, source, c.ring, n, c.small), source.Perm(n)
			if !same(mustStar(t, c.ring, moved(m, order)), moved(mustStar(t, c.ring, m), order)) {
				t.Errorf("%v: Star of %s changes with the order %v", c.ring, shown(c.ring, m), order)
			}
		}
	}
}

func TestStarsWithRowsAndColumnsThatAreZero(t *testing.T) {
	source := rand.New(rand.NewSource(9))
	for _, c := range ringCases() {
		zero, one := semiring.Zero(c.ring), semiring.One(c.ring)
		for at := range 4 {
			m := picked(t, source, c.ring, 4, c.small)
			row, column := moved(m, []int{0, 1, 2, 3}), moved(m, []int{0, 1, 2, 3})
			for i := range 4 {
				row[at][i], column[i][at] = zero, zero
			}
			inRow, inColumn := mustStar(t, c.ring, row), mustStar(t, c.ring, column)
			for i := range 4 {
				want := zero
				if i == at {
					want = one
				}
				if !semiring.Equal(inRow[at][i], want) || !semiring.Equal(inColumn[i][at], want) {
					t.Errorf("%v: Stars of %s and %s are %s and %s", c.ring, shown(c.ring, row), shown(c.ring, column), shown(c.ring, inRow), shown(c.ring, inColumn))
				}
			}
		}
	}
}

func TestStarsAreSumsOfPowers(t *testing.T) {
	// Without a cycle, no power from the number of rows on has a weight that is not Zero.
	source := rand.New(rand.NewSource(10))
	for _, c := range ringCases() {
		for range 12 {
			n := 1 + source.Intn(6)
			m := picked(t, source, c.ring, n, append(c.small, c.wide...))
			for i := range n {
				for j := range i + 1 {
					m[i][j] = semiring.Zero(c.ring)
				}
			}
			m = moved(m, source.Perm(n))
			if got, want := mustStar(t, c.ring, m), sumOfPowers(c.ring, m, n-1); !same(got, want) {
				t.Errorf("%v: Star of %s is %s, not %s", c.ring, shown(c.ring, m), shown(c.ring, got), shown(c.ring, want))
			}
			if got, want := mustStar(t, c.ring, m), sumOfWays(c.ring, m); !same(got, want) {
				t.Errorf("%v: Star of %s is %s, and the sum of the ways %s", c.ring, shown(c.ring, m), shown(c.ring, got), shown(c.ring, want))
			}
		}
	}
}

// sumOfWays returns for each i and j the sum of the weights of all ways from i to j in a matrix without a cycle.
func sumOfWays(r api.Ring, m [][]api.Weight) [][]api.Weight {
	out := square(len(m), func(_, _ int) api.Weight { return semiring.Zero(r) })
	var walk func(from, at int, w api.Weight)
	walk = func(from, at int, w api.Weight) {
		out[from][at] = semiring.Plus(r, out[from][at], w)
		for next, arc := range m[at] {
			if !semiring.Equal(arc, semiring.Zero(r)) {
				walk(from, next, semiring.Times(r, w, arc))
			}
		}
	}
	for from := range m {
		walk(from, from, semiring.One(r))
	}
	return out
}

func TestStarsAreBetweenSumsOfPowers(t *testing.T) {
	// Of numbers that are not negative, the sums of powers grow, stay below the star and come close to it.
	source := rand.New(rand.NewSource(11))
	near := big.NewRat(1, 1000)
	for range 20 {
		n := 1 + source.Intn(4)
		m := square(n, func(_, _ int) api.Weight { return api.Weight{Q: quotient(t, source.Intn(50), 100*n)} })
		s, sums := mustStar(t, rational(), m), sumOfPowers(rational(), m, 30)
		for i := range m {
			for j := range m {
				rest := new(big.Rat).Sub(fraction(s[i][j].Q), fraction(sums[i][j].Q))
				if rest.Sign() < 0 || rest.Cmp(near) > 0 {
					t.Errorf("Star of %s is %s, and the sum of powers %s", shown(rational(), m), shown(rational(), s), short(shown(rational(), sums)))
				}
			}
		}
	}
}

func TestStarsOfManyRows(t *testing.T) {
	source := rand.New(rand.NewSource(12))
	for _, c := range ringCases() {
		zero := semiring.Zero(c.ring)
		// A cycle through all rows with some other arcs, and the same without the cycle.
		weights := c.small[:3]
		m := picked(t, source, c.ring, api.MaxSide, weights)
		for i := range m {
			for j := range m {
				if j != (i+1)%api.MaxSide && (j != i || i%5 > 0) && (i%9 > 0 || j > i+9) {
					m[i][j] = zero
				}
			}
		}
		s, err := closure.Star(c.ring, m)
		if err != api.OK || !closure.Converges(c.ring, m) || !closure.Valid(c.ring, s) {
			t.Errorf("%v: Star of many rows: %v", c.ring, err)
			continue
		}
		p, _ := closure.Times(c.ring, m, s)
		q, _ := closure.Times(c.ring, s, m)
		one := unit(c.ring, api.MaxSide)
		if !same(s, plus(c.ring, one, p)) || !same(s, plus(c.ring, one, q)) {
			t.Errorf("%v: Star of many rows is no solution", c.ring)
		}
	}
}

func TestStarsOfFullRows(t *testing.T) {
	for _, text := range []string{"1/128", "-1/100", "1/65"} {
		w := parse(t, rational(), text)[0][0]
		m := square(api.MaxSide, func(_, _ int) api.Weight { return w })
		s, err := closure.Star(rational(), m)
		if err != api.OK {
			t.Fatalf("%s: %v", text, err)
		}
		// Each power is the matrix times a number, so that the star is 1 + m : (1 - 64 w).
		q := fraction(w.Q)
		other := new(big.Rat).Quo(q, new(big.Rat).Sub(big.NewRat(1, 1), new(big.Rat).Mul(big.NewRat(api.MaxSide, 1), q)))
		loop := new(big.Rat).Add(big.NewRat(1, 1), other)
		for i := range m {
			for j := range m {
				want := other
				if i == j {
					want = loop
				}
				if fraction(s[i][j].Q).Cmp(want) != 0 {
					t.Fatalf("%s: the weight from %d to %d is %s, not %s", text, i, j, semiring.Format(rational(), s[i][j]), want.RatString())
				}
			}
		}
	}
	for _, text := range []string{"1/64", "-1/64", "1/63", "-1", "1"} {
		w := parse(t, rational(), text)[0][0]
		mustNotConverge(t, rational(), square(api.MaxSide, func(_, _ int) api.Weight { return w }))
	}
}

func TestStarsOfManyDenominators(t *testing.T) {
	// Here the numbers of the star have more than a hundred digits.
	m := square(14, func(i, j int) api.Weight {
		return api.Weight{Q: quotient(t, 1-2*((i+j)%3%2), 41+(7*i+11*j)%60)}
	})
	check(t, rational(), m)
	polynomials := api.Ring{Kind: api.Polynomial}
	texts := []string{"a+1/41", "1/3*b-1/43", "1/47*c^2", "0", "1/53"}
	check(t, polynomials, picked(t, rand.New(rand.NewSource(13)), polynomials, 5, texts))
}
