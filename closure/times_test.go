package closure_test

import (
	"math/rand"
	"testing"

	"weighted/api"
	"weighted/closure"
	"weighted/semiring"
)

// mustTimes returns the product of two matrices, which has to be the sums of products.
func mustTimes(t *testing.T, r api.Ring, a, b [][]api.Weight) [][]api.Weight {
	t.Helper()
	p, err := closure.Times(r, a, b)
	if err != api.OK || !same(p, product(r, a, b)) {
		t.Errorf("%v: the product of %s and %s is %s, %v", r, short(shown(r, a)), short(shown(r, b)), short(shown(r, p)), err)
	}
	return p
}

func TestProductsByHand(t *testing.T) {
	for _, x := range []struct {
		ring          api.Ring
		a, b, product string
	}{
		{rational(), "1 2; 3 4", "5 6; 7 8", "19 22; 43 50"},
		{rational(), "1/2 -1/3; 0 1", "1/5 1/7; 3/10 0", "0 1/14; 3/10 0"},
		{rational(), "1/2 -1/2; 1/6 1/10", "1 1; 1 1", "0 0; 4/15 4/15"},
		{api.Ring{Kind: api.Tropical}, "1 inf; 0 4", "3 7; inf 1", "4 8; 3 5"},
		{api.Ring{Kind: api.Tropical}, "1099511627776 1099511627775; 0 inf", "0 1; 1 2", "1099511627776 inf; 0 1"},
		{api.Ring{Kind: api.Viterbi}, "1/2 1; 0 2/3", "1 1/3; 1/2 1/4", "1/2 1/4; 1/3 1/6"},
		{api.Ring{Kind: api.Sets}, "000000000000000f 00000000000000f0; 0000000000000000 ffffffffffffffff", "0000000000000003 000000000000000c; 0000000000000031 8000000000000000", "0000000000000033 000000000000000c; 0000000000000031 8000000000000000"},
		{api.Ring{Kind: api.Polynomial}, "a b; c^5 1/2", "a 0; b c", "a^2+b^2 b*c; 1/2*b 1/2*c"},
		{tuple(api.Rational, api.Tropical), "1|0 2|inf; 0|3 -1|1", "1|1 0|2; -1/2|3 1|inf", "0|1 2|2; 1/2|4 -1|5"},
	} {
		if got := shown(x.ring, mustTimes(t, x.ring, parse(t, x.ring, x.a), parse(t, x.ring, x.b))); got != x.product {
			t.Errorf("%v: the product of %s and %s is %s, not %s", x.ring, x.a, x.b, got, x.product)
		}
	}
}

func TestProductsAtRandom(t *testing.T) {
	source := rand.New(rand.NewSource(1))
	for _, c := range ringCases() {
		texts := append(c.small, c.wide...)
		for n := range 6 {
			for range 20 {
				a, b := picked(t, source, c.ring, n, texts), picked(t, source, c.ring, n, texts)
				mustTimes(t, c.ring, a, b)
				mustTimes(t, c.ring, a, a)
			}
		}
	}
}

func TestProductsAreAssociative(t *testing.T) {
	source := rand.New(rand.NewSource(2))
	for _, c := range ringCases() {
		texts := append(c.small, c.wide...)
		for range 20 {
			a, b, d := picked(t, source, c.ring, 3, texts), picked(t, source, c.ring, 3, texts), picked(t, source, c.ring, 3, texts)
			left := mustTimes(t, c.ring, mustTimes(t, c.ring, a, b), d)
			if right := mustTimes(t, c.ring, a, mustTimes(t, c.ring, b, d)); !same(left, right) {
				t.Errorf("%v: not associative: %s, %s, %s", c.ring, shown(c.ring, a), shown(c.ring, b), shown(c.ring, d))
			}
		}
	}
}

func TestProductsWithRowsThatAreZero(t *testing.T) {
	source := rand.New(rand.NewSource(3))
	for _, c := range ringCases() {
		a, b := picked(t, source, c.ring, 4, c.small), picked(t, source, c.ring, 4, c.small)
		for i := range 4 {
			a[1][i], b[i][2] = semiring.Zero(c.ring), semiring.Zero(c.ring)
		}
		p := mustTimes(t, c.ring, a, b)
		for i := range 4 {
			if !semiring.Equal(p[1][i], semiring.Zero(c.ring)) || !semiring.Equal(p[i][2], semiring.Zero(c.ring)) {
				t.Errorf("%v: the product of %s and %s is %s", c.ring, shown(c.ring, a), shown(c.ring, b), shown(c.ring, p))
			}
		}
	}
}

func TestProductsOfManyRows(t *testing.T) {
	source := rand.New(rand.NewSource(4))
	for _, c := range ringCases() {
		texts := c.small[:min(len(c.small), 5)]
		mustTimes(t, c.ring, picked(t, source, c.ring, 24, texts), picked(t, source, c.ring, 24, texts))
	}
	mustTimes(t, rational(), picked(t, source, rational(), api.MaxSide, []string{"1/2", "-1/3", "0", "7"}), picked(t, source, rational(), api.MaxSide, []string{"1/5", "-1/3", "0", "1"}))
}
