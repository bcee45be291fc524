package epsilon_test

import (
	"fmt"
	"math/rand"
	"slices"
	"strconv"
	"strings"
	"testing"

	"weighted/api"
	"weighted/automaton"
	"weighted/closure"
	"weighted/epsilon"
	"weighted/modeltext"
	"weighted/semiring"
)

// ringCase is the line of a ring with its weights Zero and One, with weights of which any dozen converges as weights of empty labels, with weights that do not converge in a loop, with others, and with some that have the sum Zero.
type ringCase struct {
	line, zero, one           string
	small, wide, others, gone []string
}

// ringCases returns a ring of each kind, and products. Some of their weights are Zero in one part alone, and some have a product that is Zero.
func ringCases() []ringCase {
	return []ringCase{
		{"ring rational", "0", "1", []string{"1/20", "-1/17", "3/70", "1/35"}, []string{"1", "-1", "7/3", "-2"}, []string{"1", "-7/3", "2", "1/6"}, []string{"1/2", "1/3", "-5/6"}},
		{"ring tropical", "inf", "0", []string{"0", "3", "1099511627776", "1"}, nil, []string{"0", "2", "1099511627774", "5"}, []string{"inf", "inf"}},
		{"ring viterbi", "0", "1", []string{"1", "1/2", "2/3", "1/5"}, nil, []string{"1", "1/3", "98765432109876543210/98765432109876543211"}, []string{"0", "0", "0"}},
		{"ring sets", "0000000000000000", "ffffffffffffffff", []string{"000000000000000f", "00000000000000f8", "ffffffffffffffff"}, nil, []string{"ffffffffffffffff", "00000000000000ff", "8000000000000f01"}, []string{"0000000000000000"}},
		{"ring polynomial", "0", "1", []string{"1/20", "a-1/17", "5*b^3", "c^2+1/35"}, []string{"1", "a-1", "-b+7/3", "2"}, []string{"1", "-a", "a^3*b-1/2", "c+2/3"}, []string{"a+1", "-a", "-1"}},
		{"ring product rational tropical", "0|inf", "1|0", []string{"1/20|inf", "-1/17|3", "0|0", "1/35|1"}, []string{"1|inf", "-1|0", "2|5"}, []string{"1|0", "0|7", "-7/3|inf", "1/2|1099511627775"}, []string{"1/2|inf", "-1/2|inf"}},
		{"ring product rational rational", "0|0", "1|1", []string{"1/20|-1/17", "0|1/19", "1/35|0"}, []string{"1|0", "0|-1", "1/20|2"}, []string{"1|1", "3|0", "0|-7/3", "1/2|-1/2"}, []string{"1|2", "-1|0", "0|-2"}},
		{"ring product viterbi sets polynomial", "0|0000000000000000|0", "1|ffffffffffffffff|1", []string{"1/2|000000000000000f|a", "0|00000000000000ff|b-1/20", "1|0000000000000000|1/35"}, []string{"0|0000000000000000|1", "1/2|ffffffffffffffff|a-1"},
			[]string{"1|ffffffffffffffff|1", "0|0000000000000f00|0", "1/3|00000000000000f0|a-2"}, []string{"0|0000000000000000|-b", "0|0000000000000000|b"}},
	}
}

// fill returns the text of a model from that of a template, in which zero and one stand for Zero and One, s0, s1, .. for small weights, x0, x1, .. for wide and w0, w1, .. for other ones, those with the numbers shift, shift + 1, .. and so on in turn. A line "gone 0 a 1" stands for arcs that the normal form leaves out.
func (s ringCase) fill(template string, shift int) string {
	lines := []string{s.line}
	for _, line := range strings.Split(template, ";") {
		start := strings.LastIndex(line, " ") + 1
		if ends, isGone := strings.CutPrefix(line, "gone "); isGone {
			for _, text := range s.gone {
				lines = append(lines, "arc "+ends+" "+text)
			}
			continue
		}
		lines = append(lines, line[:start]+s.text(line[start:], shift))
	}
	return strings.Join(lines, ";")
}

// text returns the text of the weight that a word of a template stands for, or the word.
func (s ringCase) text(word string, shift int) string {
	lists := map[byte][]string{'s': s.small, 'x': s.wide, 'w': s.others}
	switch i, err := strconv.Atoi(word[1:]); {
	case word == "zero":
		return s.zero
	case word == "one":
		return s.one
	case err == nil && len(lists[word[0]]) > 0:
		return lists[word[0]][(i+shift)%len(lists[word[0]])]
	}
	return word
}

// ring returns the ring that the line of a ringCase names.
func (s ringCase) ring(t *testing.T) api.Ring {
	t.Helper()
	return model(t, s.line+";symbols a;states 0").Ring
}

// model reads a model that a test relies on. Its lines are separated by semicolons.
func model(t *testing.T, text string) api.Auto {
	t.Helper()
	a, _, line, e := modeltext.Parse(strings.ReplaceAll(text, ";", "\n"))
	if e != api.OK {
		t.Fatalf("line %d: %v: %s", line, e, text)
	}
	return a
}

// shown writes an automaton for messages.
func shown(a api.Auto) string {
	var out []string
	for i := range a.Initial {
		out = append(out, fmt.Sprintf("%d: %s, %s", i, semiring.Format(a.Ring, a.Initial[i]), semiring.Format(a.Ring, a.Final[i])))
	}
	for _, x := range a.Arcs {
		out = append(out, fmt.Sprintf("%d %d %d %s", x.From, x.Label, x.To, semiring.Format(a.Ring, x.Weight)))
	}
	text := fmt.Sprintf("%v %d %s", a.Ring, a.Symbols, strings.Join(out, "; "))
	return text[:min(len(text), 1000)]
}

// sameFields compares all fields of two automata.
func sameFields(a, b api.Auto) bool {
	return a.Ring.Kind == b.Ring.Kind && slices.Equal(a.Ring.Parts, b.Ring.Parts) && a.Symbols == b.Symbols && a.States == b.States &&
		slices.EqualFunc(a.Initial, b.Initial, semiring.Equal) && slices.EqualFunc(a.Final, b.Final, semiring.Equal) &&
		slices.EqualFunc(a.Arcs, b.Arcs, func(x, y api.Arc) bool {
			return x.From == y.From && x.Label == y.Label && x.To == y.To && semiring.Equal(x.Weight, y.Weight)
		})
}

// mustNormal returns the normal form of an automaton that is valid.
func mustNormal(t *testing.T, a api.Auto) api.Auto {
	t.Helper()
	n, e := automaton.Normal(a)
	if e != api.OK {
		t.Fatalf("%s: no normal form: %v", shown(a), e)
	}
	return n
}

// mustRemove returns the Remove of an automaton that has one. It is in normal form, without empty labels, and has the same states and Initial.
func mustRemove(t *testing.T, a api.Auto) api.Auto {
	t.Helper()
	b, e := epsilon.Remove(a)
	if e != api.OK || !automaton.Valid(b) {
		t.Fatalf("%s: Remove is %s, %v", shown(a), shown(b), e)
	}
	if !sameFields(b, mustNormal(t, b)) || slices.ContainsFunc(b.Arcs, func(x api.Arc) bool { return x.Label == 0 }) {
		t.Errorf("%s: Remove is not in normal form, or has empty labels: %s", shown(a), shown(b))
	}
	if b.States != a.States || !slices.EqualFunc(b.Initial, a.Initial, semiring.Equal) {
		t.Errorf("%s: Remove has other states or Initial: %s", shown(a), shown(b))
	}
	return b
}

// mustFail checks that Remove answers an error, and nothing else.
func mustFail(t *testing.T, what string, a api.Auto, want api.Errno) {
	t.Helper()
	if b, e := epsilon.Remove(a); e != want || !sameFields(b, api.Auto{}) {
		t.Errorf("%s: Remove of %s is %s, %v, not %v", what, shown(a), shown(b), e, want)
	}
}

// weightOf returns the weight of the arc with these ends and this label in a normal form, or Zero.
func weightOf(n api.Auto, from, label, to int) api.Weight {
	for _, x := range n.Arcs {
		if x.From == from && x.Label == label && x.To == to {
			return x.Weight
		}
	}
	return semiring.Zero(n.Ring)
}

// matrixOf returns what P14.1 says of Matrix.
func matrixOf(n api.Auto) [][]api.Weight {
	out := make([][]api.Weight, n.States)
	for i := range out {
		for j := range n.States {
			out[i] = append(out[i], weightOf(n, i, 0, j))
		}
	}
	return out
}

// removalOf returns what P14.2 says of Remove, word for word.
func removalOf(n api.Auto) (api.Auto, api.Errno) {
	c, e := closure.Star(n.Ring, matrixOf(n))
	if e != api.OK {
		return api.Auto{}, e
	}
	sum := func(i int, weight func(k int) api.Weight) api.Weight {
		out := semiring.Zero(n.Ring)
		for k := range n.States {
			out = semiring.Plus(n.Ring, out, semiring.Times(n.Ring, c[i][k], weight(k)))
		}
		return out
	}
	out := n
	out.Arcs, out.Final = nil, nil
	for i := range n.States {
		out.Final = append(out.Final, sum(i, func(k int) api.Weight { return n.Final[k] }))
		for symbol := 1; symbol <= n.Symbols; symbol++ {
			for j := range n.States {
				w := sum(i, func(k int) api.Weight { return weightOf(n, k, symbol, j) })
				if !semiring.Equal(w, semiring.Zero(n.Ring)) {
					out.Arcs = append(out.Arcs, api.Arc{From: i, Label: symbol, To: j, Weight: w})
				}
			}
		}
	}
	if len(out.Arcs) > api.MaxArcs {
		return api.Auto{}, api.ErrLimit
	}
	return out, api.OK
}

// check holds both functions against the chapter, with the arcs in several orders.
func check(t *testing.T, a api.Auto) {
	t.Helper()
	source := rand.New(rand.NewSource(int64(len(a.Arcs))))
	n := mustNormal(t, a)
	want, err := removalOf(n)
	a.Arcs = slices.Clone(a.Arcs)
	for range 3 {
		m, e := epsilon.Matrix(a)
		if e != api.OK || len(m) != a.States || !slices.EqualFunc(m, matrixOf(n), func(v, w []api.Weight) bool { return slices.EqualFunc(v, w, semiring.Equal) }) {
			t.Errorf("%s: Matrix is %v, %v", shown(a), m, e)
		}
		if err != api.OK {
			mustFail(t, "the chapter", a, err)
		} else if got := mustRemove(t, a); !sameFields(got, want) {
			t.Errorf("%s: Remove is %s, not %s", shown(a), shown(got), shown(want))
		}
		source.Shuffle(len(a.Arcs), func(i, k int) { a.Arcs[i], a.Arcs[k] = a.Arcs[k], a.Arcs[i] })
	}
}

// random returns an automaton with so many arcs with symbols, with at most a dozen empty ones for which isEmpty is true, with equal ones among them, and with some that have the sum Zero.
func random(t *testing.T, source *rand.Rand, s ringCase, states, size int, isEmpty func(from, to int) bool) api.Auto {
	t.Helper()
	template := fmt.Sprintf("symbols a b;states %d", states)
	weight := func(letter string) string {
		if source.Intn(4) == 0 {
			return "zero"
		}
		return letter + strconv.Itoa(source.Intn(9))
	}
	for i := range states {
		template += fmt.Sprintf(";initial %d %s;final %d %s", i, weight("w"), i, weight("w"))
	}
	for range size {
		from, to, symbol := source.Intn(states), source.Intn(states), []string{"a", "b"}[source.Intn(2)]
		template += fmt.Sprintf(";arc %d %s %d %s", from, symbol, to, weight("w"))
	}
	for range 12 {
		if from, to := source.Intn(states), source.Intn(states); isEmpty(from, to) {
			template += fmt.Sprintf(";arc %d - %d %s", from, to, weight("s"))
		}
	}
	template += fmt.Sprintf(";gone %d - %d;gone %d a %d", source.Intn(states), source.Intn(states), source.Intn(states), source.Intn(states))
	return model(t, s.fill(template, 0))
}

// anywhere lets empty labels lead from any state to any.
func anywhere(_, _ int) bool { return true }

// onward lets empty labels lead to later states alone, so that there is no cycle of them.
func onward(from, to int) bool { return from < to }
