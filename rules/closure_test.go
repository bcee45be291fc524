package rules

import (
	"testing"

	"weighted/api"
	"weighted/closure"
)

func TestClosure(t *testing.T) {
	for _, text := range texts() {
		a, _ := parsed(t, text)
		weights := weightsOf(a)
		for i, w := range weights {
			v := weights[(i+3)%len(weights)]
			obeyClosure(t, a.Ring, [][]api.Weight{{w}})
			obeyClosure(t, a.Ring, [][]api.Weight{{w, v}, {v, w}})
			// Without a cycle, each of them converges.
			zero := weights[0]
			obeyClosure(t, a.Ring, [][]api.Weight{{zero, w, v}, {zero, zero, w}, {zero, zero, zero}})
			obeyClosure(t, a.Ring, [][]api.Weight{{zero, w, v}, {zero, zero}, nil})
			obeyClosure(t, a.Ring, [][]api.Weight{{w, {Inf: true, Cost: 1}}, {v, w}})
		}
		obeyClosure(t, a.Ring, nil)
	}
	obey(t, closure.Times, nil, nil, nil)
	obeyClosure(t, api.Ring{}, nil)
	obeyClosure(t, api.Ring{Kind: api.Product, Parts: []int{api.Rational}}, [][]api.Weight{{{}}})
}

// obeyClosure checks the functions with a list of rows.
func obeyClosure(t *testing.T, r api.Ring, m [][]api.Weight) {
	t.Helper()
	obey(t, closure.Valid, r, m)
	obey(t, closure.Converges, r, m)
	obey(t, closure.Star, r, m)
	obey(t, closure.Times, r, m, m)
	if len(m) == 2 {
		obey(t, closure.Times, r, m, [][]api.Weight{m[1], m[0]})
		obey(t, closure.Times, r, m, m[:1])
	}
}
