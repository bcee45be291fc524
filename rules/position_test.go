package rules

import (
	"slices"
	"testing"

	"weighted/api"
	"weighted/position"
	"weighted/regex"
)

func TestPosition(t *testing.T) {
	for _, s := range settings(t) {
		e, _, _ := regex.Parse(s.ring, s.table, s.text)
		obeyPosition(t, s, e)
		obeyPosition(t, s, append(slices.Clone(e), e...))
		obeyPosition(t, s, e[:len(e)/2])
		// Weights that are sums and products, and the same ones in several arcs.
		e, _, _ = regex.Parse(s.ring, s.table, "(a (("+s.text+") + (a + a)))* (("+s.text+") a + 1)")
		obeyPosition(t, s, e)
	}
	obey(t, position.First, nil, nil, nil)
	obey(t, position.Last, nil, nil, nil)
	obey(t, position.Automaton, nil, nil, nil)
	obeyPosition(t, setting{ring: api.Ring{Kind: api.Rational}, table: []string{"a"}}, nil)
}

// obeyPosition checks the functions with a list of operations.
func obeyPosition(t *testing.T, s setting, e []api.ENode) {
	t.Helper()
	obey(t, position.First, s.ring, len(s.table), e)
	obey(t, position.Last, s.ring, len(s.table), e)
	obey(t, position.Automaton, s.ring, len(s.table), e)
}
