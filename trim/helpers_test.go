package trim_test

import (
	"fmt"
	"math/rand"
	"slices"
	"strconv"
	"strings"
	"testing"

	"weighted/api"
	"weighted/automaton"
	"weighted/modeltext"
	"weighted/semiring"
	"weighted/trim"
)

// ringCase is the line of a ring with its weights Zero and One, with others, and with some that have the sum Zero.
type ringCase struct {
	line, zero, one string
	others, gone    []string
}

// ringCases returns a ring of each kind, and products. Some of their weights are Zero in one part alone, and some have a product that is Zero.
func ringCases() []ringCase {
	return []ringCase{
		{"ring rational", "0", "1", []string{"1", "1/2", "-1/2", "-7/3", "123456789012345678901234567890/7"}, []string{"1/2", "1/3", "-5/6"}},
		{"ring tropical", "inf", "0", []string{"0", "3", "1099511627776", "1"}, []string{"inf", "inf"}},
		{"ring viterbi", "0", "1", []string{"1", "1/2", "2/3"}, []string{"0", "0", "0"}},
		{"ring sets", "0000000000000000", "ffffffffffffffff", []string{"000000000000000f", "00000000000000f0", "ffffffffffffffff"}, []string{"0000000000000000"}},
		{"ring polynomial", "0", "1", []string{"a^5", "b^5", "1", "-a", "a*b+1/2"}, []string{"a+1", "-a", "-1"}},
		{"ring product rational tropical", "0|inf", "1|0", []string{"0|0", "1|inf", "1|0", "-1/2|3"}, []string{"1/2|inf", "-1/2|inf"}},
		{"ring product rational rational", "0|0", "1|1", []string{"0|3", "3|0", "1/2|-1/2"}, []string{"1|2", "-1|0", "0|-2"}},
		{"ring product viterbi sets polynomial", "0|0000000000000000|0", "1|ffffffffffffffff|1",
			[]string{"0|0000000000000000|a", "1/2|0000000000000000|0", "0|0000000000000f00|0", "1|ffffffffffffffff|1"}, []string{"0|0000000000000000|-b", "0|0000000000000000|b"}},
	}
}

// ring returns the ring that the line of a ringCase names.
func (s ringCase) ring(t *testing.T) api.Ring {
	t.Helper()
	return model(t, s.line+";symbols a;states 0").Ring
}

// weight reads a weight of the ring.
func (s ringCase) weight(t *testing.T, text string) api.Weight {
	t.Helper()
	w, ok := semiring.Parse(s.ring(t), text)
	if !ok {
		t.Fatalf("%s: no weight: %s", s.line, text)
	}
	return w
}

// fill returns the text of a model from that of a template, in which zero and one stand for Zero and One and w0, w1, .. for other weights, those with the numbers shift, shift + 1, .. and so on in turn. A line "gone 0 a 1" stands for arcs that the normal form leaves out.
func (s ringCase) fill(template string, shift int) string {
	lines := []string{s.line}
	for _, line := range strings.Split(template, ";") {
		start := strings.LastIndex(line, " ") + 1
		ends, isGone := strings.CutPrefix(line, "gone ")
		number, isOther := strings.CutPrefix(line[start:], "w")
		switch {
		case isGone:
			for _, text := range s.gone {
				lines = append(lines, "arc "+ends+" "+text)
			}
		case isOther:
			i, _ := strconv.Atoi(number)
			lines = append(lines, line[:start]+s.others[(i+shift)%len(s.others)])
		default:
			lines = append(lines, line[:start]+strings.NewReplacer("zero", s.zero, "one", s.one).Replace(line[start:]))
		}
	}
	return strings.Join(lines, ";")
}

// model reads a model that a test relies on. Its lines are separated by semicolons.
func model(t *testing.T, text string) api.Auto {
	t.Helper()
	a, _, line, e := modeltext.Parse(strings.ReplaceAll(text, ";", "\n"))
	if e != api.OK {
		t.Fatalf("line %d: %v: %s", line, e, text)
	}
	return a
}

// marks reads which states are marked, each as 1 or 0.
func marks(text string) []bool {
	var out []bool
	for _, c := range text {
		out = append(out, c == '1')
	}
	return out
}

// sameFields compares all fields of two automata.
func sameFields(a, b api.Auto) bool {
	return a.Ring.Kind == b.Ring.Kind && slices.Equal(a.Ring.Parts, b.Ring.Parts) && a.Symbols == b.Symbols && a.States == b.States &&
		slices.EqualFunc(a.Initial, b.Initial, semiring.Equal) && slices.EqualFunc(a.Final, b.Final, semiring.Equal) &&
		slices.EqualFunc(a.Arcs, b.Arcs, func(x, y api.Arc) bool {
			return x.From == y.From && x.Label == y.Label && x.To == y.To && semiring.Equal(x.Weight, y.Weight)
		})
}

// mustUseful returns the useful states of an automaton that is valid.
func mustUseful(t *testing.T, a api.Auto) []bool {
	t.Helper()
	got, e := trim.Useful(a)
	if e != api.OK || len(got) != a.States {
		t.Fatalf("%v: Useful is %v, %v", a, got, e)
	}
	return got
}

// mustTrim returns the Trim of an automaton that is valid.
func mustTrim(t *testing.T, a api.Auto) api.Auto {
	t.Helper()
	got, e := trim.Trim(a)
	if e != api.OK || !automaton.Valid(got) {
		t.Fatalf("%v: Trim is %v, %v", a, got, e)
	}
	return got
}

// check checks the useful states and the Trim of an automaton, with its arcs in several orders.
func check(t *testing.T, what string, a api.Auto, useful []bool, want api.Auto) {
	t.Helper()
	source := rand.New(rand.NewSource(int64(len(a.Arcs))))
	a.Arcs = slices.Clone(a.Arcs)
	for round := range 4 {
		if got := mustUseful(t, a); !slices.Equal(got, useful) {
			t.Errorf("%s: Useful is %v, not %v", what, got, useful)
		}
		if got := mustTrim(t, a); !sameFields(got, want) {
			t.Errorf("%s: Trim is %v, not %v", what, got, want)
		}
		slices.Reverse(a.Arcs)
		if round > 0 {
			source.Shuffle(len(a.Arcs), func(i, k int) { a.Arcs[i], a.Arcs[k] = a.Arcs[k], a.Arcs[i] })
		}
	}
}

// random returns an automaton with arcs of all labels, also the empty one, equal ones among them, some of the weight Zero and some with the sum Zero.
func random(t *testing.T, source *rand.Rand, s ringCase, states, size int) api.Auto {
	t.Helper()
	weight := func() string {
		if source.Intn(2) > 0 {
			return "zero"
		}
		return fmt.Sprintf("w%d", source.Intn(len(s.others)))
	}
	template := fmt.Sprintf("symbols a b;states %d", states)
	for i := range states {
		template += fmt.Sprintf(";initial %d %s;final %d %s", i, weight(), i, weight())
	}
	ends := func() string {
		return fmt.Sprintf("%d %s %d", source.Intn(states), []string{"-", "a", "b"}[source.Intn(3)], source.Intn(states))
	}
	for range size {
		template += fmt.Sprintf(";arc %s %s;gone %s", ends(), weight(), ends())
	}
	return model(t, s.fill(template, 0))
}
