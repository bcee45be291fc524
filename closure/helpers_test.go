package closure_test

import (
	"math/big"
	"math/rand"
	"slices"
	"strings"
	"testing"

	"weighted/api"
	"weighted/closure"
	"weighted/semiring"
)

// ringCase is a ring with the texts of some weights of a loop that converges, also together with those of others, and of some that do not.
type ringCase struct {
	ring        api.Ring
	small, wide []string
}

// ringCases returns a ring of each kind, and products. Some of their weights are Zero in one part alone.
func ringCases() []ringCase {
	return []ringCase{
		{rational(), []string{"0", "1/9", "-1/8", "1/10", "3/35", "-12345678901234567890/123456789012345678901"}, []string{"1", "-1", "1/2", "-2/3", "999/1000", "7/3"}},
		{api.Ring{Kind: api.Tropical}, []string{"inf", "0", "1", "7", "1099511627776", "1099511627775", "549755813888"}, nil},
		{api.Ring{Kind: api.Viterbi}, []string{"0", "1", "1/2", "2/3", "98765432109876543210/98765432109876543211"}, nil},
		{api.Ring{Kind: api.Sets}, []string{"0000000000000000", "ffffffffffffffff", "000000000000000f", "00000000000000f8", "8000000000000001"}, nil},
		{api.Ring{Kind: api.Polynomial}, []string{"0", "1/9", "a-1/8", "5*a*b+1/10", "c", "a^2-3*b^5", "-1/11"}, []string{"1", "a-1", "2*c+1/2", "b^3-2/3"}},
		{tuple(api.Rational, api.Tropical), []string{"0|inf", "1/9|3", "-1/8|0", "0|1099511627776", "1/10|inf"}, []string{"1|inf", "-1|0", "1/2|5"}},
		{tuple(api.Rational, api.Rational), []string{"0|0", "1/9|-1/9", "-1/8|0", "0|1/10"}, []string{"1|0", "0|-1", "1/2|1/9", "1/10|-2/3"}},
		{tuple(api.Viterbi, api.Sets, api.Polynomial), []string{"0|0000000000000000|0", "1/3|00000000000000ff|b+1/9", "0|ffffffffffffffff|a", "1|0000000000000000|-1/8", "1/2|0000000000000f0f|0"}, []string{"0|0000000000000000|1", "1/2|ffffffffffffffff|a-1/2"}},
	}
}

// rational is the ring of most examples.
func rational() api.Ring {
	return api.Ring{Kind: api.Rational}
}

// tuple returns a product of rings.
func tuple(kinds ...int) api.Ring {
	return api.Ring{Kind: api.Product, Parts: kinds}
}

// parse reads a matrix: the weights of a row have spaces between them, and the rows have semicolons.
func parse(t *testing.T, r api.Ring, text string) [][]api.Weight {
	t.Helper()
	var out [][]api.Weight
	for _, line := range strings.Split(text, ";") {
		var row []api.Weight
		for _, word := range strings.Fields(line) {
			w, ok := semiring.Parse(r, word)
			if !ok {
				t.Fatalf("%v: %q is no weight", r, word)
			}
			row = append(row, w)
		}
		out = append(out, row)
	}
	return out
}

// shown writes a matrix as parse reads it.
func shown(r api.Ring, m [][]api.Weight) string {
	var out []string
	for _, row := range m {
		var line []string
		for _, w := range row {
			line = append(line, semiring.Format(r, w))
		}
		out = append(out, strings.Join(line, " "))
	}
	return strings.Join(out, "; ")
}

// short returns the beginning of a text, for messages.
func short(text string) string {
	return text[:min(len(text), 300)]
}

// square returns the matrix with these entries.
func square(n int, entry func(i, j int) api.Weight) [][]api.Weight {
	out := make([][]api.Weight, n)
	for i := range out {
		for j := range n {
			out[i] = append(out[i], entry(i, j))
		}
	}
	return out
}

// same reports whether two matrices have the same entries.
func same(a, b [][]api.Weight) bool {
	return slices.EqualFunc(a, b, func(v, w []api.Weight) bool { return slices.EqualFunc(v, w, semiring.Equal) })
}

// unit returns the unit matrix.
func unit(r api.Ring, n int) [][]api.Weight {
	return square(n, func(i, j int) api.Weight {
		if i == j {
			return semiring.One(r)
		}
		return semiring.Zero(r)
	})
}

// plus returns the sum of two matrices.
func plus(r api.Ring, a, b [][]api.Weight) [][]api.Weight {
	return square(len(a), func(i, j int) api.Weight { return semiring.Plus(r, a[i][j], b[i][j]) })
}

// product returns the product of two matrices.
func product(r api.Ring, a, b [][]api.Weight) [][]api.Weight {
	return square(len(a), func(i, j int) api.Weight {
		sum := semiring.Zero(r)
		for k := range a {
			sum = semiring.Plus(r, sum, semiring.Times(r, a[i][k], b[k][j]))
		}
		return sum
	})
}

// moved returns the matrix with its rows and columns in another order.
func moved(m [][]api.Weight, order []int) [][]api.Weight {
	return square(len(m), func(i, j int) api.Weight { return m[order[i]][order[j]] })
}

// picked returns a matrix of weights from a list of texts.
func picked(t *testing.T, source *rand.Rand, r api.Ring, n int, texts []string) [][]api.Weight {
	t.Helper()
	return square(n, func(_, _ int) api.Weight {
		w, ok := semiring.Parse(r, texts[source.Intn(len(texts))])
		if !ok {
			t.Fatalf("%v: no weight in %v", r, texts)
		}
		return w
	})
}

// fraction returns a number of package math/big.
func fraction(q api.Rat) *big.Rat {
	whole := func(limbs []uint32) *big.Int {
		out := new(big.Int)
		for _, limb := range slices.Backward(limbs) {
			out.Lsh(out, 32).Add(out, new(big.Int).SetUint64(uint64(limb)))
		}
		return out
	}
	den := big.NewInt(1)
	if len(q.Den) > 0 {
		den = whole(q.Den)
	}
	out := new(big.Rat).SetFrac(whole(q.Num), den)
	if q.Neg {
		out.Neg(out)
	}
	return out
}

// eliminates is the elimination of the chapter, word for word.
func eliminates(m [][]*big.Rat) bool {
	n, one := len(m), big.NewRat(1, 1)
	for k := range n {
		p := m[k][k]
		if p.Cmp(one) >= 0 {
			return false
		}
		rest := new(big.Rat).Sub(one, p)
		for i := k + 1; i < n; i++ {
			for j := k + 1; j < n; j++ {
				more := new(big.Rat).Mul(m[i][k], m[k][j])
				m[i][j] = new(big.Rat).Add(m[i][j], more.Quo(more, rest))
			}
		}
	}
	return true
}

// converges is the definition of Converges, for a valid matrix.
func converges(r api.Ring, m [][]api.Weight) bool {
	if r.Kind == api.Product {
		for at, kind := range r.Parts {
			if !converges(api.Ring{Kind: kind}, square(len(m), func(i, j int) api.Weight { return m[i][j].Parts[at] })) {
				return false
			}
		}
		return true
	}
	if r.Kind != api.Rational && r.Kind != api.Polynomial {
		return true
	}
	numbers := make([][]*big.Rat, len(m))
	for i := range m {
		for j := range m {
			q := m[i][j].Q
			for _, x := range m[i][j].Poly {
				if x.Exps == [api.MaxParams]int{} {
					q = x.Coef
				}
			}
			numbers[i] = append(numbers[i], new(big.Rat).Abs(fraction(q)))
		}
	}
	return eliminates(numbers)
}

// sumOfPowers returns 1 + m + ... + m^most.
func sumOfPowers(r api.Ring, m [][]api.Weight, most int) [][]api.Weight {
	sum := unit(r, len(m))
	for range most {
		sum = plus(r, unit(r, len(m)), product(r, m, sum))
	}
	return sum
}

// mustStar returns the star of a matrix that converges. It solves both equations.
func mustStar(t *testing.T, r api.Ring, m [][]api.Weight) [][]api.Weight {
	t.Helper()
	if !closure.Converges(r, m) {
		t.Fatalf("%v: does not converge: %s", r, short(shown(r, m)))
	}
	s, err := closure.Star(r, m)
	if err != api.OK || !closure.Valid(r, s) || len(s) != len(m) {
		t.Fatalf("%v: Star of %s is %s, %v", r, short(shown(r, m)), short(shown(r, s)), err)
	}
	if !same(s, plus(r, unit(r, len(m)), product(r, m, s))) {
		t.Errorf("%v: Star of %s is %s, and s is not 1 + m s", r, short(shown(r, m)), short(shown(r, s)))
	}
	if !same(s, plus(r, unit(r, len(m)), product(r, s, m))) {
		t.Errorf("%v: Star of %s is %s, and s is not 1 + s m", r, short(shown(r, m)), short(shown(r, s)))
	}
	return s
}

// mustNotConverge checks that a valid matrix has no star.
func mustNotConverge(t *testing.T, r api.Ring, m [][]api.Weight) {
	t.Helper()
	if !closure.Valid(r, m) || closure.Converges(r, m) {
		t.Errorf("%v: is not valid, or converges: %s", r, short(shown(r, m)))
	}
	if s, err := closure.Star(r, m); err != api.ErrStar || len(s) > 0 {
		t.Errorf("%v: Star of %s is %s, %v", r, short(shown(r, m)), short(shown(r, s)), err)
	}
}

// check holds all that Converges and Star say of a valid matrix against their definitions.
func check(t *testing.T, r api.Ring, m [][]api.Weight) {
	t.Helper()
	if !converges(r, m) {
		mustNotConverge(t, r, m)
		return
	}
	s := mustStar(t, r, m)
	// The equation has only one solution in some parts, and the sum of powers is finite in the others.
	sums := sumOfPowers(r, m, len(m))
	for i := range m {
		for j := range m {
			if !idempotentlySame(r, s[i][j], sums[i][j]) {
				t.Errorf("%v: Star of %s is %s, and the sum of the powers %s", r, short(shown(r, m)), short(shown(r, s)), short(shown(r, sums)))
				return
			}
		}
	}
}

// idempotentlySame reports whether two weights are the same in all parts in which Plus(w, w) is w.
func idempotentlySame(r api.Ring, v, w api.Weight) bool {
	switch r.Kind {
	case api.Product:
		for at, kind := range r.Parts {
			if !idempotentlySame(api.Ring{Kind: kind}, v.Parts[at], w.Parts[at]) {
				return false
			}
		}
		return true
	case api.Rational, api.Polynomial:
		return true
	}
	return semiring.Equal(v, w)
}
