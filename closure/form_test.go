package closure_test

import (
	"math"
	"slices"
	"testing"

	"weighted/api"
	"weighted/closure"
	"weighted/semiring"
)

// refused checks that a matrix is not valid, for any function.
func refused(t *testing.T, r api.Ring, m [][]api.Weight) {
	t.Helper()
	good := unit(r, len(m))
	if closure.Valid(r, m) || closure.Converges(r, m) {
		t.Errorf("%v: valid, or converges: %.300v", r, m)
	}
	if s, err := closure.Star(r, m); err != api.ErrForm || len(s) > 0 {
		t.Errorf("%v: Star of %.300v is %.300v, %v", r, m, s, err)
	}
	for _, pair := range [][2][][]api.Weight{{m, m}, {m, good}, {good, m}} {
		if p, err := closure.Times(r, pair[0], pair[1]); err != api.ErrForm || len(p) > 0 {
			t.Errorf("%v: Times of %.300v is %.300v, %v", r, pair, p, err)
		}
	}
}

// accepted checks that a matrix is valid, and that its product with the unit matrix is the matrix itself.
func accepted(t *testing.T, r api.Ring, m [][]api.Weight) {
	t.Helper()
	if !closure.Valid(r, m) {
		t.Errorf("%v: not valid: %s", r, short(shown(r, m)))
	}
	for _, pair := range [][2][][]api.Weight{{m, unit(r, len(m))}, {unit(r, len(m)), m}} {
		if p, err := closure.Times(r, pair[0], pair[1]); err != api.OK || !same(p, m) {
			t.Errorf("%v: a product of %s with the unit matrix is %s, %v", r, short(shown(r, m)), short(shown(r, p)), err)
		}
	}
}

func TestListsThatAreNoMatrix(t *testing.T) {
	for _, c := range ringCases() {
		one := semiring.One(c.ring)
		row := func(n int) []api.Weight { return slices.Repeat([]api.Weight{one}, n) }
		for _, lengths := range [][]int{{0}, {2}, {1, 1}, {2, 1}, {1, 2}, {2, 3}, {3, 2}, {3, 3}, {2, 0}, {0, 0}, {2, 2, 2}, {3, 3, 2}, {3, 3, 4}, {4, 3, 3}, {3, 3, 3, 3}, {2, 2, 2, 2}} {
			var m [][]api.Weight
			for _, n := range lengths {
				m = append(m, row(n))
			}
			refused(t, c.ring, m)
		}
		refused(t, c.ring, [][]api.Weight{nil})
		refused(t, c.ring, append(unit(c.ring, 2), nil))
	}
}

func TestNumbersOfRows(t *testing.T) {
	for _, c := range ringCases() {
		for _, n := range []int{0, 1, 2, 9} {
			accepted(t, c.ring, unit(c.ring, n))
		}
		if !closure.Valid(c.ring, unit(c.ring, api.MaxSide)) {
			t.Errorf("%v: a matrix of %d rows is not valid", c.ring, api.MaxSide)
		}
		refused(t, c.ring, unit(c.ring, api.MaxSide+1))
		refused(t, c.ring, unit(c.ring, 2*api.MaxSide))
		for _, sizes := range [][2]int{{0, 1}, {1, 0}, {1, 2}, {2, 1}, {3, 5}, {api.MaxSide, api.MaxSide - 1}} {
			if p, err := closure.Times(c.ring, unit(c.ring, sizes[0]), unit(c.ring, sizes[1])); err != api.ErrForm || len(p) > 0 {
				t.Errorf("%v: the product of matrices with %v rows has %d rows, %v", c.ring, sizes, len(p), err)
			}
		}
	}
}

func TestMatrixWithoutRows(t *testing.T) {
	for _, c := range ringCases() {
		for _, m := range [][][]api.Weight{nil, {}} {
			if !closure.Valid(c.ring, m) || !closure.Converges(c.ring, m) {
				t.Errorf("%v: a matrix without rows is not valid, or does not converge", c.ring)
			}
			if s, err := closure.Star(c.ring, m); err != api.OK || len(s) > 0 {
				t.Errorf("%v: Star of no rows is %v, %v", c.ring, s, err)
			}
			if p, err := closure.Times(c.ring, m, nil); err != api.OK || len(p) > 0 {
				t.Errorf("%v: Times of no rows is %v, %v", c.ring, p, err)
			}
		}
	}
}

func TestRingsThatAreNone(t *testing.T) {
	for _, r := range []api.Ring{{}, {Kind: -1}, {Kind: 7}, {Kind: math.MaxInt}, {Kind: math.MinInt}, {Kind: api.Rational, Parts: []int{api.Rational}}, {Kind: api.Product}, tuple(api.Rational), tuple(api.Rational, api.Product), tuple(api.Rational, 0), tuple(api.Sets, api.Sets, api.Sets, api.Sets)} {
		for n := range 3 {
			refused(t, r, make([][]api.Weight, n))
			refused(t, r, unit(rational(), n))
			refused(t, r, unit(r, n))
		}
	}
}

func TestWeightsOfOtherRings(t *testing.T) {
	tropical := api.Ring{Kind: api.Tropical}
	wrong := []api.Weight{{Inf: true, Cost: 1}, {Cost: -1}, {Cost: api.MaxCost + 1}, {Q: api.Rat{Num: []uint32{2}, Den: []uint32{4}}}, {Q: api.Rat{Num: []uint32{1, 0}}}, {Q: api.Rat{Neg: true}}, {Set: 1, Cost: 1}, {Parts: []api.Weight{{}}}, {Parts: make([]api.Weight, 4)}, {Poly: make([]api.Monomial, 1)}}
	for _, c := range ringCases() {
		list := wrong
		for _, other := range ringCases() {
			for _, text := range slices.Concat(other.small, other.wide) {
				w := parse(t, other.ring, text)[0][0]
				if !semiring.Check(c.ring, w) {
					list = append(list, w)
				}
			}
		}
		if c.ring.Kind != api.Tropical {
			list = append(list, semiring.Zero(tropical))
		}
		for _, w := range list {
			refused(t, c.ring, [][]api.Weight{{w}})
			for at := range 9 {
				m := unit(c.ring, 3)
				m[at/3][at%3] = w
				refused(t, c.ring, m)
			}
		}
	}
}

func TestErrorsInTheirOrder(t *testing.T) {
	// The first row alone says that the matrix does not converge, and a later one that it is none.
	for _, c := range ringCases() {
		if len(c.wide) == 0 {
			continue
		}
		loop := parse(t, c.ring, c.wide[0])[0][0]
		m := square(2, func(_, _ int) api.Weight { return loop })
		mustNotConverge(t, c.ring, m)
		m[1][1] = api.Weight{Inf: true, Cost: 1}
		refused(t, c.ring, m)
		refused(t, c.ring, [][]api.Weight{{loop}, {loop}})
	}
}
