package modeltext

import (
	"math/rand"
	"slices"
	"strings"
	"testing"

	"weighted/api"
	"weighted/automaton"
	"weighted/semiring"
)

// ringCase is a ring, the words behind "ring" in its line, texts of weights, the first two of which are Zero and One, and texts that are none.
type ringCase struct {
	ring  api.Ring
	words string
	texts []string
	wrong []string
}

// ringCases returns a ring of each kind, and some products.
func ringCases() []ringCase {
	return []ringCase{
		{api.Ring{Kind: api.Rational}, "rational",
			[]string{"0", "1", "1/2", "-7/3", "-1", "123456789012345678901234567891/7"},
			[]string{"inf", "1/0", "x", "1|1", "+1", "-", "a", "1/2/3", "--1", ".5", strings.Repeat("1", api.MaxDigits+1)}},
		{api.Ring{Kind: api.Tropical}, "tropical",
			[]string{"inf", "0", "1", "3", "1099511627776"},
			[]string{"1099511627777", "-1", "1/2", "Inf", "01", "+1", "-inf", "0|0"}},
		{api.Ring{Kind: api.Viterbi}, "viterbi",
			[]string{"0", "1", "1/2", "2/3"},
			[]string{"3/2", "-1/2", "2", "inf", "1|1", "x"}},
		{api.Ring{Kind: api.Sets}, "sets",
			[]string{"0000000000000000", "ffffffffffffffff", "00000000000000ff", "8000000000000001"},
			[]string{"0", "f", "FFFFFFFFFFFFFFFF", "000000000000000g", "00000000000000000", "0x00000000000000"}},
		{api.Ring{Kind: api.Polynomial}, "polynomial",
			[]string{"0", "1", "a", "-b+c^5", "a*b+1/2", "-1/3"},
			[]string{"d", "a^6", "b+a", "a+", "a|b", "a*b^", "inf", "2a", "a+-b"}},
		{api.Ring{Kind: api.Product, Parts: []int{api.Rational, api.Tropical}}, "product rational tropical",
			[]string{"0|inf", "1|0", "-1/2|5", "0|3", "1/2|inf"},
			[]string{"0", "0|inf|0", "0|-1", "inf|0", "|", "0|", "|0", "0||0"}},
		{api.Ring{Kind: api.Product, Parts: []int{api.Sets, api.Sets}}, "product sets sets",
			[]string{"0000000000000000|0000000000000000", "ffffffffffffffff|ffffffffffffffff", "000000000000000f|0000000000000000"},
			[]string{"0|0", "0000000000000000", "0000000000000000|0000000000000000|0000000000000000"}},
		{api.Ring{Kind: api.Product, Parts: []int{api.Polynomial, api.Viterbi, api.Rational}}, "product polynomial viterbi rational",
			[]string{"0|0|0", "1|1|1", "a-1|1/2|-3", "0|0|7"},
			[]string{"0|0", "0|2|0", "0|0|0|0", "d|0|0", "1|1/2|inf"}},
	}
}

// join returns a text of lines, each with a line feed.
func join(lines ...string) string {
	return strings.Join(append(slices.Clone(lines), ""), "\n")
}

// model returns a text with three first lines that fit, and others.
func model(lines ...string) string {
	return join(append([]string{"ring rational", "symbols a b", "states 3"}, lines...)...)
}

// read reads a weight that a test relies on.
func read(t *testing.T, r api.Ring, text string) api.Weight {
	t.Helper()
	w, ok := semiring.Parse(r, text)
	if !ok {
		t.Fatalf("%v: no weight: %q", r, text)
	}
	return w
}

// blank returns an automaton of Zero weights without arcs.
func blank(r api.Ring, symbols, states int) api.Auto {
	a := api.Auto{Ring: r, Symbols: symbols, States: states}
	for range states {
		a.Initial = append(a.Initial, semiring.Zero(r))
		a.Final = append(a.Final, semiring.Zero(r))
	}
	return a
}

// random returns an automaton with any weights and arcs.
func random(t *testing.T, source *rand.Rand, s ringCase, symbols, states, size int) api.Auto {
	t.Helper()
	a := blank(s.ring, symbols, states)
	weight := func() api.Weight { return read(t, s.ring, s.texts[source.Intn(len(s.texts))]) }
	for i := range states {
		a.Initial[i], a.Final[i] = weight(), weight()
	}
	for range min(size, size*states) {
		a.Arcs = append(a.Arcs, api.Arc{From: source.Intn(states), Label: source.Intn(symbols + 1), To: source.Intn(states), Weight: weight()})
	}
	return a
}

// names returns a table of n names.
func names(n int) []string {
	var table []string
	for i := range n {
		table = append(table, strings.Repeat("x", 1+i%20)+string(rune('A'+i%26))+string(rune('a'+i/26)))
	}
	return table
}

// checkParse checks the automaton and the table of a text.
func checkParse(t *testing.T, text string, want api.Auto, table []string) {
	t.Helper()
	a, got, line, e := Parse(text)
	if e != api.OK || line != 0 {
		t.Errorf("%.200q: line %d: %v", text, line, e)
		return
	}
	if !automaton.Same(a, want) || !slices.Equal(got, table) || !automaton.Valid(a) {
		t.Errorf("%.200q: %v, %q, not %v, %q", text, a, got, want, table)
	}
}

// checkLike checks that two texts have the same automaton and table.
func checkLike(t *testing.T, text, other string) {
	t.Helper()
	a, table, line, e := Parse(other)
	if e != api.OK {
		t.Errorf("%.200q: line %d: %v", other, line, e)
		return
	}
	checkParse(t, text, a, table)
}

// checkError checks the line and the error of a text, and that there is nothing else.
func checkError(t *testing.T, text string, wantLine int, want api.Errno) {
	t.Helper()
	a, table, line, e := Parse(text)
	if e != want || line != wantLine {
		t.Errorf("%.200q: line %d: %v, not line %d: %v", text, line, e, wantLine, want)
	}
	checkNothing(t, a, table)
}

// checkNothing checks that there is no automaton and no table.
func checkNothing(t *testing.T, a api.Auto, table []string) {
	t.Helper()
	if !automaton.Same(a, api.Auto{}) || len(table) > 0 {
		t.Errorf("with an error: %v, %q", a, table)
	}
}
