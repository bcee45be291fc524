package epsilon

import (
	"slices"
	"strings"
	"testing"

	"weighted/api"
	"weighted/semiring"
)

func TestRowsOfWholeNumbers(t *testing.T) {
	// No result shows it, but sums of long fractions take many times as long.
	for _, x := range []struct {
		ring         api.Ring
		row, factors string
	}{
		{api.Ring{Kind: api.Rational}, "", ""},
		{api.Ring{Kind: api.Rational}, "0 1 -7", "0 1 -7"},
		{api.Ring{Kind: api.Rational}, "1/6 1/10 -1/15 0 2", "5 3 -2 0 60"},
		{api.Ring{Kind: api.Rational}, "1/4 1/2 3/8", "2 4 3"},
		{api.Ring{Kind: api.Rational}, "1/18446744073709551616 1/3", "3 18446744073709551616"},
		{api.Ring{Kind: api.Polynomial}, "1/2*a+1/3 0 -1/4*b^5 c", "6*a+4 0 -3*b^5 12*c"},
		{api.Ring{Kind: api.Tropical}, "inf 0 7", "inf 0 7"},
		{api.Ring{Kind: api.Viterbi}, "0 1/2 2/3", "0 1/2 2/3"},
		{api.Ring{Kind: api.Sets}, "0000000000000000 ffffffffffffffff", "0000000000000000 ffffffffffffffff"},
		{api.Ring{Kind: api.Product, Parts: []int{api.Rational, api.Tropical}}, "1/2|7 1/3|inf", "3|7 2|inf"},
		{api.Ring{Kind: api.Product, Parts: []int{api.Polynomial, api.Viterbi, api.Rational}}, "1/2|1/2|1/3 a|0|5", "1|1/2|1 2*a|0|15"},
	} {
		read := func(text string) []api.Weight {
			var out []api.Weight
			for _, word := range strings.Fields(text) {
				w, ok := semiring.Parse(x.ring, word)
				if !ok {
					t.Fatalf("%v: no weight: %s", x.ring, word)
				}
				out = append(out, w)
			}
			return out
		}
		weights := read(x.row)
		got := newRow(x.ring, weights)
		if !slices.EqualFunc(got.factors, read(x.factors), semiring.Equal) {
			t.Errorf("%v: the factors of %s are %v", x.ring, x.row, got.factors)
		}
		for i, w := range weights {
			if back := semiring.Times(x.ring, got.factors[i], got.share); !semiring.Equal(back, w) {
				t.Errorf("%v: factor %d of %s times share is %v", x.ring, i, x.row, back)
			}
		}
	}
}

func TestArcsThatARowReaches(t *testing.T) {
	r := api.Ring{Kind: api.Product, Parts: []int{api.Rational, api.Rational}}
	arcs := []api.Arc{{From: 3, To: 1}, {From: 0, To: 2}, {From: 1, To: 0}, {From: 2, To: 2}, {From: 0, To: 3}}
	var weights []api.Weight
	for _, text := range []string{"0|0", "1/2|0", "0|-1/3", "1|1"} {
		w, ok := semiring.Parse(r, text)
		if !ok {
			t.Fatalf("no weight: %s", text)
		}
		weights = append(weights, w)
	}
	got := newRow(r, weights).reached(arcs)
	if len(got) != 3 || got[0].From != 3 || got[1].From != 1 || got[2].From != 2 || len(arcs) != 5 {
		t.Errorf("%v", got)
	}
}
