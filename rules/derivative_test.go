package rules

import (
	"slices"
	"testing"

	"weighted/api"
	"weighted/derivative"
	"weighted/regex"
)

func TestDerivative(t *testing.T) {
	for _, s := range settings(t) {
		e, _, _ := regex.Parse(s.ring, s.table, s.text)
		obeyDerivative(t, s, e)
		obeyDerivative(t, s, append(slices.Clone(e), e...))
		obeyDerivative(t, s, e[:len(e)/2])
		// The star stands twice in the derivative.
		star := "((" + s.text + ") a)*"
		e, _, _ = regex.Parse(s.ring, s.table, star+" + "+star+" a")
		obeyDerivative(t, s, e)
	}
	obey(t, derivative.Derive, nil, nil, nil, nil)
	obey(t, derivative.Automaton, nil, nil, nil)
	obey(t, derivative.Derive, api.Ring{Kind: api.Rational}, 1, nil, 1)
	obey(t, derivative.Automaton, api.Ring{Kind: api.Rational}, 1, nil)
}

// obeyDerivative checks the functions with a list of operations.
func obeyDerivative(t *testing.T, s setting, e []api.ENode) {
	t.Helper()
	obey(t, derivative.Automaton, s.ring, len(s.table), e)
	for symbol := range len(s.table) + 2 {
		obey(t, derivative.Derive, s.ring, len(s.table), e, symbol)
	}
}
