package rules

import (
	"testing"

	"weighted/api"
	"weighted/modeltext"
)

// texts are models of all kinds of rings.
func texts() []string {
	return []string{
		"ring rational\nsymbols a b\nstates 0\n",
		"ring rational\nsymbols a b\nstates 2\ninitial 0 1/2\nfinal 1 -7/3\narc 0 a 1 2\narc 0 - 0 1/3\narc 0 a 1 123456789012345678901234567890\n",
		"ring tropical\nsymbols a b\nstates 3\ninitial 0 0\nfinal 2 7\narc 0 a 1 3\narc 1 - 0 inf\narc 1 b 2 1\n",
		"ring viterbi\nsymbols a\nstates 2\ninitial 0 1\nfinal 1 1/2\narc 0 a 1 1/3\narc 1 a 1 2/3\n",
		"ring sets\nsymbols a b c\nstates 2\ninitial 0 ffffffffffffffff\nfinal 1 00000000000000ff\narc 0 c 1 0000000000000f0f\n",
		"ring polynomial\nsymbols a b\nstates 2\ninitial 0 1\nfinal 1 a*b+1/2\narc 0 a 1 -b+c^5\narc 1 b 1 -1/3\n",
		"ring product rational polynomial\nsymbols a b\nstates 2\ninitial 0 1|a\nfinal 1 1/2|b\narc 0 a 1 0|c\n",
		"ring product viterbi sets tropical\nsymbols a\nstates 1\ninitial 0 1/2|000000000000000f|inf\nfinal 0 1|ffffffffffffffff|0\narc 0 a 0 1/3|00000000000000f0|5\n",
	}
}

// parsed reads a model that a test relies on.
func parsed(t *testing.T, text string) (api.Auto, []string) {
	t.Helper()
	a, table, line, e := modeltext.Parse(text)
	if e != api.OK {
		t.Fatalf("line %d: %v: %s", line, e, text)
	}
	return a, table
}

func TestModeltext(t *testing.T) {
	for _, text := range texts() {
		obey(t, modeltext.Parse, text)
		obey(t, modeltext.Parse, text+"arc 0 a 9 x")
		a, table := parsed(t, text)
		obey(t, modeltext.Format, a, table)
		obey(t, modeltext.Format, a, table[1:])
		obey(t, modeltext.Format, a, nil)
		a.Ring.Kind = -1
		obey(t, modeltext.Format, a, table)
	}
	obey(t, modeltext.Parse, "")
	obey(t, modeltext.Format, nil, nil)
}
