package closure_test

import (
	"math/big"
	"math/rand"
	"testing"

	"weighted/api"
	"weighted/closure"
	"weighted/semiring"
)

func TestConvergesByHand(t *testing.T) {
	polynomials := api.Ring{Kind: api.Polynomial}
	for _, x := range []struct {
		ring api.Ring
		m    string
		want bool
	}{
		{rational(), "0", true},
		{rational(), "999999999999999999999999999999/1000000000000000000000000000000", true},
		{rational(), "1", false},
		{rational(), "1000000000000000000000000000001/1000000000000000000000000000000", false},
		{rational(), "2", false},
		{rational(), "-1/2", true},
		{rational(), "-999/1000", true},
		// By its absolute value alone: 1 - m has an inverse.
		{rational(), "-1", false},
		{rational(), "-2", false},
		{rational(), "0 1; 1 0", false},
		{rational(), "0 1/2; 1/2 0", true},
		{rational(), "0 1/2; 2 0", false},
		{rational(), "0 1/2; 1999/1000 0", true},
		{rational(), "0 1/2; 2001/1000 0", false},
		{rational(), "0 1/2; -2 0", false},
		{rational(), "0 -1/2; -2 0", false},
		{rational(), "0 -1/2; 1999/1000 0", true},
		// The numbers in the diagonal after the first step: 1/2 + 1/4 : 1/2, and a little less.
		{rational(), "1/2 1/2; 1/2 1/2", false},
		{rational(), "1/2 1/2; 1/2 499/1000", true},
		{rational(), "1/2 1/2; 1/2 501/1000", false},
		{rational(), "1/2 -1/2; 1/2 1/2", false},
		{rational(), "1/2 -1/2; 1/2 -1/2", false},
		{rational(), "1/2 -1/2; 499/1000 -1/2", true},
		// After the second step.
		{rational(), "0 1/2 0; 0 0 1/2; 3 0 0", true},
		{rational(), "0 1/2 0; 0 0 1/2; 4 0 0", false},
		{rational(), "0 1/2 0; 0 0 -1/2; 4 0 0", false},
		{rational(), "0 0 4; 1/2 0 0; 0 1/2 0", false},
		{rational(), "0 0 399/100; 1/2 0 0; 0 1/2 0", true},
		{rational(), "1/3 1/3 1/3; 1/3 1/3 1/3; 1/3 1/3 1/3", false},
		{rational(), "1/3 1/3 1/3; 1/3 1/3 1/3; 1/3 1/3 33/100", true},
		// Large numbers that no way uses twice.
		{rational(), "0 1000 -7; 0 0 1/3; 0 0 0", true},
		{rational(), "1/2 1000 -7; 0 -1/2 99; 0 0 9/10", true},
		{rational(), "1/2 1000 -7; 0 -1/2 99; 0 0 1", false},
		{rational(), "1 0 0; 0 0 0; 0 0 0", false},
		{rational(), "0 0 0; 0 0 0; 0 0 -1", false},
		{api.Ring{Kind: api.Tropical}, "0 1; 1 0", true},
		{api.Ring{Kind: api.Tropical}, "inf 1099511627776; 0 inf", true},
		{api.Ring{Kind: api.Viterbi}, "1 1; 1 1", true},
		{api.Ring{Kind: api.Sets}, "ffffffffffffffff ffffffffffffffff; ffffffffffffffff 0000000000000000", true},
		{polynomials, "a", true},
		{polynomials, "1000*a^3-7*b", true},
		{polynomials, "99*a+1/2", true},
		{polynomials, "99*a-1/2", true},
		{polynomials, "1", false},
		{polynomials, "99*a+1", false},
		{polynomials, "-99*a-1", false},
		{polynomials, "c-1", false},
		{polynomials, "a 1; 1 b", false},
		{polynomials, "a 5*b; 7*c a^4+1000*b^4", true},
		{polynomials, "a+1/2 b^5+1/2; 1/2 c+1/2", false},
		{polynomials, "a+1/2 b^5+1/2; 499/1000 c+1/2", true},
		{polynomials, "a+1/2 b^5-1/2; 1/2 c+1/2", false},
		{tuple(api.Rational, api.Tropical), "1/2|0", true},
		{tuple(api.Rational, api.Tropical), "1|inf", false},
		{tuple(api.Tropical, api.Rational), "0|-1", false},
		{tuple(api.Rational, api.Rational), "0|1/2 1|1/2; 1/2|1/2 0|0", true},
		{tuple(api.Rational, api.Rational), "0|1/2 1|1/2; 1|1/2 0|0", false},
		{tuple(api.Rational, api.Rational), "0|1/2 1|1/2; 1/2|1 0|0", false},
		{tuple(api.Rational, api.Polynomial, api.Rational), "0|a|0", true},
		{tuple(api.Rational, api.Polynomial, api.Rational), "1|a|0", false},
		{tuple(api.Rational, api.Polynomial, api.Rational), "0|a+1|0", false},
		{tuple(api.Rational, api.Polynomial, api.Rational), "0|a|-1", false},
		// A way that is Zero in the other part alone.
		{tuple(api.Rational, api.Rational), "0|0 1|0; 0|1 0|0", true},
		{tuple(api.Rational, api.Rational), "0|0 1|1; 0|1 0|0", false},
	} {
		m := parse(t, x.ring, x.m)
		if got := closure.Converges(x.ring, m); got != x.want || !closure.Valid(x.ring, m) {
			t.Errorf("%v: Converges of %s is %t", x.ring, x.m, got)
		}
		check(t, x.ring, m)
	}
}

func TestConvergesForAllSmallMatrices(t *testing.T) {
	// A matrix of two rows of numbers that are not negative has a star exactly if both loops have one and the product of what they leave is greater than that of the other two.
	numbers := []*big.Rat{big.NewRat(0, 1), big.NewRat(1, 4), big.NewRat(1, 2), big.NewRat(2, 3), big.NewRat(3, 4), big.NewRat(1, 1), big.NewRat(3, 2)}
	one := big.NewRat(1, 1)
	each(len(numbers), 4, func(at []int) {
		a, b, c, d := numbers[at[0]], numbers[at[1]], numbers[at[2]], numbers[at[3]]
		rest := new(big.Rat).Mul(new(big.Rat).Sub(one, a), new(big.Rat).Sub(one, d))
		want := a.Cmp(one) < 0 && d.Cmp(one) < 0 && rest.Cmp(new(big.Rat).Mul(b, c)) > 0
		for signs := range 16 {
			m := parse(t, rational(), signed(a, signs&1)+" "+signed(b, signs&2)+";"+signed(c, signs&4)+" "+signed(d, signs&8))
			if closure.Converges(rational(), m) != want {
				t.Errorf("Converges of %s is not %t", shown(rational(), m), want)
			}
		}
	})
}

// each calls a function with all lists of so many numbers less than a bound.
func each(bound, count int, f func(list []int)) {
	list := make([]int, count)
	for {
		f(list)
		at := 0
		for at < count && list[at] == bound-1 {
			list[at] = 0
			at++
		}
		if at == count {
			return
		}
		list[at]++
	}
}

// signed writes a number with a sign.
func signed(q *big.Rat, minus int) string {
	if minus != 0 && q.Sign() != 0 {
		return "-" + q.RatString()
	}
	return q.RatString()
}

func TestConvergesInAnyOrder(t *testing.T) {
	source := rand.New(rand.NewSource(5))
	for _, c := range ringCases() {
		texts := append(c.small, c.wide...)
		yes, no := 0, 0
		for range 150 {
			n := 1 + source.Intn(5)
			// With many small weights about half of the matrices converge.
			list := append(texts, c.small...)
			m := picked(t, source, c.ring, n, append(list, c.small[0], c.small[0], c.small[0]))
			want := converges(c.ring, m)
			if want {
				yes++
			} else {
				no++
			}
			for range 4 {
				order := source.Perm(n)
				if closure.Converges(c.ring, moved(m, order)) != want {
					t.Errorf("%v: Converges of %s in the order %v is not %t", c.ring, shown(c.ring, m), order, want)
				}
			}
		}
		if yes < 30 || no < 30 && len(c.wide) > 0 {
			t.Errorf("%v: %d matrices converge, and %d do not", c.ring, yes, no)
		}
	}
}

func TestConvergesByPowers(t *testing.T) {
	// If no row has a sum of 1 or more, the powers become small; if each has, they do not.
	source := rand.New(rand.NewSource(6))
	for range 100 {
		n := 1 + source.Intn(6)
		m := square(n, func(_, _ int) api.Weight {
			return api.Weight{Q: quotient(t, source.Intn(200)-100, 100*n)}
		})
		if !closure.Converges(rational(), m) {
			t.Errorf("does not converge: %s", shown(rational(), m))
		}
		m = square(n, func(_, _ int) api.Weight {
			return api.Weight{Q: quotient(t, (100+source.Intn(100))*(1-2*source.Intn(2)), 100*n)}
		})
		if closure.Converges(rational(), m) {
			t.Errorf("converges: %s", shown(rational(), m))
		}
	}
}

// quotient returns a number.
func quotient(t *testing.T, num, den int) api.Rat {
	t.Helper()
	text := big.NewRat(int64(num), int64(den)).RatString()
	w, ok := semiring.Parse(rational(), text)
	if !ok {
		t.Fatalf("%q is no number", text)
	}
	return w.Q
}
