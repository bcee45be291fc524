package rules

import (
	"slices"
	"strings"
	"testing"

	"weighted/api"
	"weighted/regex"
	"weighted/semiring"
)

// setting is what the text of an expression is read with, and this text.
type setting struct {
	ring  api.Ring
	table []string
	text  string
}

// settings returns texts of expressions with weights of all kinds of rings, and some texts that stand for none.
func settings(t *testing.T) []setting {
	t.Helper()
	var out []setting
	for _, model := range texts() {
		a, table := parsed(t, model)
		for _, w := range weightsOf(a) {
			for _, text := range []string{"[%]1", "[%]a", "a", "[%]a + [%]1", "a ([%]a a)* [%]a*", "[%][%]a a 1", "(0 [%]1)*", "([%]1)*", "[%]", "a [x]", "a ab", " "} {
				out = append(out, setting{a.Ring, table, strings.ReplaceAll(text, "%", semiring.Format(a.Ring, w))})
			}
		}
	}
	return out
}

// weightsOf returns the weights Zero and One, and those of a model.
func weightsOf(a api.Auto) []api.Weight {
	out := []api.Weight{semiring.Zero(a.Ring), semiring.One(a.Ring)}
	out = append(append(out, a.Initial...), a.Final...)
	for _, x := range a.Arcs {
		out = append(out, x.Weight)
	}
	return out
}

func TestRegex(t *testing.T) {
	for _, s := range settings(t) {
		obeyRegex(t, s.ring, s.table, s.text)
	}
	obey(t, regex.Valid, nil, nil, nil)
	obey(t, regex.Constant, nil, nil, nil)
	obey(t, regex.Weight, nil, nil, nil, nil)
	obey(t, regex.Parse, nil, nil, nil)
	obey(t, regex.Format, nil, nil, nil)
	obey(t, regex.Parse, api.Ring{Kind: api.Rational}, nil, "a")
	obey(t, regex.Format, api.Ring{Kind: api.Rational}, []string{"a"}, nil)
}

// obeyRegex checks the functions with the expression that a text stands for, and with lists that are none.
func obeyRegex(t *testing.T, r api.Ring, table []string, text string) {
	t.Helper()
	obey(t, regex.Parse, r, table, text)
	e, _, _ := regex.Parse(r, table, text)
	for _, list := range [][]api.ENode{e, append(slices.Clone(e), e...), e[:len(e)/2]} {
		obey(t, regex.Valid, r, len(table), list)
		obey(t, regex.Constant, r, len(table), list)
		obey(t, regex.Format, r, table, list)
		for _, word := range [][]int{nil, {1}, {1, 1}, {1, 1, 1}, {len(table) + 1}} {
			obey(t, regex.Weight, r, len(table), list, word)
		}
	}
}
