package position_test

import (
	"slices"
	"strings"
	"testing"
	"time"

	"weighted/api"
	"weighted/semiring"
)

// example is an expression with its weights of positions and its automaton, all written as texts.
type example struct {
	text, first, last string
	// constant is the weight of the empty word.
	constant, arcs string
}

// check checks an example.
func (x example) check(t *testing.T, r api.Ring) {
	t.Helper()
	e := parse(t, r, x.text)
	first, last := weightsOf(t, r, 3, e)
	if got := written(r, first); got != x.first {
		t.Errorf("%v: First of %s is %s, not %s", r, x.text, got, x.first)
	}
	if got := written(r, last); got != x.last {
		t.Errorf("%v: Last of %s is %s, not %s", r, x.text, got, x.last)
	}
	a := mustAutomaton(t, r, 3, e, allWords(3, 3))
	if got := writtenArcs(a); got != x.arcs {
		t.Errorf("%v: Automaton of %s has the arcs %s, not %s", r, x.text, got, x.arcs)
	}
	if got := written(r, a.Final); got != strings.TrimSpace(x.constant+" "+x.last) || a.States != len(last)+1 {
		t.Errorf("%v: Automaton of %s has %d states with Final %s", r, x.text, a.States, got)
	}
	for i, w := range a.Initial {
		want := semiring.Zero(r)
		if i == 0 {
			want = semiring.One(r)
		}
		if !semiring.Equal(w, want) {
			t.Errorf("%v: Automaton of %s has Initial %v at %d", r, x.text, w, i)
		}
	}
	checkDefinition(t, r, 3, e, nil)
}

func TestTheExample(t *testing.T) {
	example{"a* b", "1 1", "0 1", "0", "0 a 1 1, 0 b 2 1, 1 a 1 1, 1 b 2 1"}.check(t, rational())
}

func TestOperations(t *testing.T) {
	for _, x := range []example{
		{"a", "1", "1", "0", "0 a 1 1"},
		{"c", "1", "1", "0", "0 c 1 1"},
		{"[1/2]a", "1/2", "1", "0", "0 a 1 1/2"},
		{"[2][-3/4]a", "-3/2", "1", "0", "0 a 1 -3/2"},
		{"[1/3](a + b)", "1/3 1/3", "1 1", "0", "0 a 1 1/3, 0 b 2 1/3"},
		{"[2](a b)", "2 0", "0 1", "0", "0 a 1 2, 1 b 2 1"},
		{"[2]([3]a [5]b)", "6 0", "0 1", "0", "0 a 1 6, 1 b 2 5"},
		{"[3](1 + a)", "3", "1", "3", "0 a 1 3"},
		{"a + b", "1 1", "1 1", "0", "0 a 1 1, 0 b 2 1"},
		{"b + a", "1 1", "1 1", "0", "0 a 2 1, 0 b 1 1"},
		{"a + a", "1 1", "1 1", "0", "0 a 1 1, 0 a 2 1"},
		{"[2]a + [3]b + [5]1", "2 3", "1 1", "5", "0 a 1 2, 0 b 2 3"},
		{"[2]1 + a + 1", "1", "1", "3", "0 a 1 1"},
		{"a b", "1 0", "0 1", "0", "0 a 1 1, 1 b 2 1"},
		{"(1 + a) b", "1 1", "0 1", "0", "0 a 1 1, 0 b 2 1, 1 b 2 1"},
		{"a (1 + b)", "1 0", "1 1", "0", "0 a 1 1, 1 b 2 1"},
		{"(1 + a) (1 + b)", "1 1", "1 1", "1", "0 a 1 1, 0 b 2 1, 1 b 2 1"},
		{"([1/2]1 + [2]a) ([1/3]1 + [5]b)", "2 5/2", "1/3 1", "1/6", "0 a 1 2, 0 b 2 5/2, 1 b 2 5"},
		{"[7]1 a", "7", "1", "0", "0 a 1 7"},
		{"a [7]1", "1", "7", "0", "0 a 1 1"},
		{"a 0", "1", "0", "0", "0 a 1 1"},
		{"0 a", "0", "1", "0", ""},
		{"(a b) c", "1 0 0", "0 0 1", "0", "0 a 1 1, 1 b 2 1, 2 c 3 1"},
		{"a (b c)", "1 0 0", "0 0 1", "0", "0 a 1 1, 1 b 2 1, 2 c 3 1"},
		{"(([1/2]1 + a) ([1/3]1 + b)) ([1/5]1 + c)", "1 1/2 1/6", "1/15 1/5 1", "1/30", "0 a 1 1, 0 b 2 1/2, 0 c 3 1/6, 1 b 2 1, 1 c 3 1/3, 2 c 3 1"},
		{"([1/2]1 + a) (([1/3]1 + b) ([1/5]1 + c))", "1 1/2 1/6", "1/15 1/5 1", "1/30", "0 a 1 1, 0 b 2 1/2, 0 c 3 1/6, 1 b 2 1, 1 c 3 1/3, 2 c 3 1"},
		{"(a + b) (b + c)", "1 1 0 0", "0 0 1 1", "0", "0 a 1 1, 0 b 2 1, 1 b 3 1, 1 c 4 1, 2 b 3 1, 2 c 4 1"},
		{"a*", "1", "1", "1", "0 a 1 1, 1 a 1 1"},
		{"([1/2]a)*", "1/2", "1", "1", "0 a 1 1/2, 1 a 1 1/2"},
		{"[1/2](a*)", "1/2", "1", "1/2", "0 a 1 1/2, 1 a 1 1"},
		{"([1/2]1 + a)*", "2", "2", "2", "0 a 1 2, 1 a 1 2"},
		{"([1/2]1 + [3]a)*", "6", "2", "2", "0 a 1 6, 1 a 1 6"},
		{"(a + b)*", "1 1", "1 1", "1", "0 a 1 1, 0 b 2 1, 1 a 1 1, 1 b 2 1, 2 a 1 1, 2 b 2 1"},
		{"(a b)*", "1 0", "0 1", "1", "0 a 1 1, 1 b 2 1, 2 a 1 1"},
		{"(a* b)*", "1 1", "0 1", "1", "0 a 1 1, 0 b 2 1, 1 a 1 1, 1 b 2 1, 2 a 1 1, 2 b 2 1"},
		{"a* a*", "1 1", "1 1", "1", "0 a 1 1, 0 a 2 1, 1 a 1 1, 1 a 2 1, 2 a 2 1"},
		{"([1/2](a*))*", "1", "2", "2", "0 a 1 1, 1 a 1 2"},
		{"([1/2](a* b*))*", "1 1", "2 2", "2", "0 a 1 1, 0 b 2 1, 1 a 1 2, 1 b 2 2, 2 a 1 1, 2 b 2 2"},
		{"([1/2](a* b))* [1/3]c", "1/2 1/2 1/3", "0 0 1", "0", "0 a 1 1/2, 0 b 2 1/2, 0 c 3 1/3, 1 a 1 1, 1 b 2 1, 2 a 1 1/2, 2 b 2 1/2, 2 c 3 1/3"},
		{"([1/2](([1/3](a*))*))*", "1", "6", "4", "0 a 1 1, 1 a 1 3"},
		{"(([1/2]1 + a) ([1/3]1 + b))*", "6/5 3/5", "2/5 6/5", "6/5", "0 a 1 6/5, 0 b 2 3/5, 1 a 1 2/5, 1 b 2 6/5, 2 a 1 6/5, 2 b 2 3/5"},
	} {
		x.check(t, rational())
	}
}

func TestExpressionsWithoutPositions(t *testing.T) {
	for _, s := range ringCases() {
		for _, text := range []string{"0", "1", "1 + 1", "1 1", "0 1", "1 + 0", "0*", "[v]1", "[v]0", "[v]1 + [v]1", "([v]0)* [v]1", "(0 1)*"} {
			for _, v := range s.weights {
				text := strings.ReplaceAll(text, "[v]", "["+v+"]")
				constant := semiring.Format(s.ring, constantOf(t, s.ring, 3, parse(t, s.ring, text)))
				example{text, "", "", constant, ""}.check(t, s.ring)
			}
		}
	}
}

func TestOtherRings(t *testing.T) {
	tropical, viterbi, sets, polynomial := api.Ring{Kind: api.Tropical}, api.Ring{Kind: api.Viterbi}, api.Ring{Kind: api.Sets}, api.Ring{Kind: api.Polynomial}
	example{"([3]a + [1]1) ([2]b + [4]1)", "3 3", "4 0", "5", "0 a 1 3, 0 b 2 3, 1 b 2 2"}.check(t, tropical)
	example{"([3](([2]a)*) + [1](a*))*", "5 1", "0 0", "0", "0 a 1 5, 0 a 2 1, 1 a 1 2, 1 a 2 1, 2 a 1 5, 2 a 2 0"}.check(t, tropical)
	example{"a**", "0", "0", "0", "0 a 1 0, 1 a 1 0"}.check(t, tropical)
	example{"([1/2]a + [1/3]1) [1/5]b", "1/2 1/15", "0 1", "0", "0 a 1 1/2, 0 b 2 1/15, 1 b 2 1/5"}.check(t, viterbi)
	example{"([1/2](a*) + [2/3](([1/3]a)*))*", "1/2 2/9", "1 1", "1", "0 a 1 1/2, 0 a 2 2/9, 1 a 1 1, 1 a 2 2/9, 2 a 1 1/2, 2 a 2 1/3"}.check(t, viterbi)
	example{"[000000000000000f]a [00000000000000fc]b*", "000000000000000f 0000000000000000", "ffffffffffffffff ffffffffffffffff", "0000000000000000",
		"0 a 1 000000000000000f, 1 b 2 00000000000000fc, 2 b 2 00000000000000fc"}.check(t, sets)
	example{"([a]1 + b) (c + [b]1)", "1 a", "b 1", "a*b", "0 b 1 1, 0 c 2 a, 1 c 2 1"}.check(t, polynomial)
	example{"([a^5]a + [1/2]1)* b", "2*a^5 2", "0 1", "0", "0 a 1 2*a^5, 0 b 2 2, 1 a 1 2*a^5, 1 b 2 2"}.check(t, polynomial)
	example{"[1/2|3]a ([0|1]1 + b)", "1/2|3 0|inf", "0|1 1|0", "0|inf", "0 a 1 1/2|3, 1 b 2 1|0"}.check(t, tuple(api.Rational, api.Tropical))
	example{"([1|0]1 + a) ([0|1]1 + b)", "1|1 1|0", "0|1 1|1", "0|0", "0 a 1 1|1, 0 b 2 1|0, 1 b 2 1|1"}.check(t, tuple(api.Rational, api.Rational))
}

func TestWeightsThatVanish(t *testing.T) {
	tropical, sets, polynomial := api.Ring{Kind: api.Tropical}, api.Ring{Kind: api.Sets}, api.Ring{Kind: api.Polynomial}
	for _, x := range []struct {
		ring api.Ring
		example
	}{
		// Factors that are Zero, and sums of constants that are.
		{rational(), example{"[0]a", "0", "1", "0", ""}},
		{rational(), example{"[0]a b", "0 0", "0 1", "0", "1 b 2 1"}},
		{rational(), example{"a [0]b", "1 0", "0 1", "0", "0 a 1 1"}},
		{rational(), example{"([0]a)*", "0", "1", "1", ""}},
		{rational(), example{"[0](a*)", "0", "1", "0", "1 a 1 1"}},
		{rational(), example{"([1/2]1 + a + [-1/2]1) b", "1 0", "0 1", "0", "0 a 1 1, 1 b 2 1"}},
		{rational(), example{"a ([1/2]1 + b + [-1/2]1)", "1 0", "0 1", "0", "0 a 1 1, 1 b 2 1"}},
		// Products that are Zero.
		{tropical, example{"([1099511627776]1 + a) [1]b", "0 inf", "inf 0", "inf", "0 a 1 0, 1 b 2 1"}},
		{tropical, example{"[1][1099511627776]a", "inf", "0", "inf", ""}},
		{sets, example{"([00000000000000f0]1 + a) [000000000000000f]b", "ffffffffffffffff 0000000000000000", "0000000000000000 ffffffffffffffff", "0000000000000000", "0 a 1 ffffffffffffffff, 1 b 2 000000000000000f"}},
		{polynomial, example{"([a^5]1 + a) [b]b", "1 0", "0 1", "0", "0 a 1 1, 1 b 2 b"}},
		{tuple(api.Rational, api.Rational), example{"([1|0]1 + a) [0|3]b", "1|1 0|0", "0|0 1|1", "0|0", "0 a 1 1|1, 1 b 2 0|3"}},
		{tuple(api.Rational, api.Tropical), example{"([0|7]1 + a) [3|inf]b", "1|0 0|inf", "0|inf 1|0", "0|inf", "0 a 1 1|0, 1 b 2 3|inf"}},
		// What follows within an operation and what follows around it have the sum Zero, or are Zero in one part alone.
		{rational(), example{"([-1/2](a*) + 1)*", "-1", "2", "2", "0 a 1 -1"}},
		{rational(), example{"((a + [-1/2]1) (b + 1) + 1)*", "2 -1", "2 2", "2", "0 a 1 2, 0 b 2 -1, 1 a 1 2, 2 a 1 2, 2 b 2 -1"}},
		{polynomial, example{"([-1/2](a*) + 1)*", "-1", "2", "2", "0 a 1 -1"}},
		{tuple(api.Rational, api.Rational), example{"([-1/2|0](a*) + [1|0]1)*", "-1|0", "2|1", "2|1", "0 a 1 -1|0, 1 a 1 0|1"}},
		{tuple(api.Rational, api.Tropical), example{"([-1/2|inf](a*) + [1|0]1)*", "-1|inf", "2|0", "2|0", "0 a 1 -1|inf, 1 a 1 0|0"}},
	} {
		x.check(t, x.ring)
	}
}

func TestLongWords(t *testing.T) {
	e := parse(t, rational(), "([1/2](a* b))* a*")
	var word []int
	for i := range api.MaxWord {
		word = append(word, 1+i*i%3%2)
	}
	mustAutomaton(t, rational(), 2, e, [][]int{word, word[:100], slices.Repeat([]int{1}, api.MaxWord)})
}

func TestHeavyWeights(t *testing.T) {
	// Each of 44 positions follows each of them through 12 stars, with weights that are long sums.
	r := api.Ring{Kind: api.Polynomial}
	text := balanced(" + ", symbolsFrom(44))
	for range 12 {
		text = "([1/100*a+b+1/100](" + text + "))*"
	}
	start := time.Now()
	checkArcs(t, r, parse(t, r, text), 45*44)
	if used := time.Since(start); used > 20*time.Second {
		t.Errorf("44 positions in 12 stars take %v", used)
	}
}
