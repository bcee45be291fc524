package combine_test

import (
	"testing"

	"weighted/api"
	"weighted/combine"
	"weighted/samples"
)

// union returns the Union of automata that have one.
func union(t *testing.T, a, b api.Auto) api.Auto {
	t.Helper()
	out, e := combine.Union(a, b)
	return samples.Must(t, out, e)
}

// concat returns the Concat of automata that have one.
func concat(t *testing.T, a, b api.Auto) api.Auto {
	t.Helper()
	out, e := combine.Concat(a, b)
	return samples.Must(t, out, e)
}

// star returns the Star of an automaton that has one.
func star(t *testing.T, a api.Auto) api.Auto {
	t.Helper()
	out, e := combine.Star(a)
	return samples.Must(t, out, e)
}

// reverse returns the Reverse of an automaton that has one.
func reverse(t *testing.T, a api.Auto) api.Auto {
	t.Helper()
	out, e := combine.Reverse(a)
	return samples.Must(t, out, e)
}

// scale returns the Scale of an automaton that has one.
func scale(t *testing.T, a api.Auto, w api.Weight) api.Auto {
	t.Helper()
	out, e := combine.Scale(a, w)
	return samples.Must(t, out, e)
}
