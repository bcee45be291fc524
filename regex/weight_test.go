package regex_test

import (
	"fmt"
	"math/rand"
	"slices"
	"strings"
	"testing"
	"time"

	"weighted/api"
	"weighted/regex"
	"weighted/semiring"
)

// oracle finds the weights of the words by the sentences of P10.2, each pair of an expression and a part of the word once.
type oracle struct {
	ring  api.Ring
	word  []int
	known map[question]api.Weight
}

// question is an expression with the ends of a part of the word.
type question struct {
	x        *expression
	from, to int
}

// weight returns the weight of a part of the word. All stars exist.
func (o oracle) weight(x *expression, from, to int) api.Weight {
	q := question{x, from, to}
	w, ok := o.known[q]
	if !ok {
		w = o.find(x, from, to)
		o.known[q] = w
	}
	return w
}

// find does the same without looking at what is known.
func (o oracle) find(x *expression, from, to int) api.Weight {
	sum := semiring.Zero(o.ring)
	add := func(v, w api.Weight) { sum = semiring.Plus(o.ring, sum, semiring.Times(o.ring, v, w)) }
	one := semiring.One(o.ring)
	switch x.node.Op {
	case api.EOne:
		if from == to {
			return one
		}
	case api.ESymbol:
		if to == from+1 && o.word[from] == x.node.Num {
			return one
		}
	case api.EScale:
		add(x.node.Weight, o.weight(x.parts[0], from, to))
	case api.ESum:
		add(one, o.weight(x.parts[0], from, to))
		add(one, o.weight(x.parts[1], from, to))
	case api.EProduct:
		for at := from; at <= to; at++ {
			add(o.weight(x.parts[0], from, at), o.weight(x.parts[1], at, to))
		}
	case api.EStar:
		c, _ := semiring.Star(o.ring, o.weight(x.parts[0], from, from))
		if from == to {
			return c
		}
		for at := from + 1; at <= to; at++ {
			add(o.weight(x.parts[0], from, at), o.weight(x, at, to))
		}
		return semiring.Times(o.ring, c, sum)
	}
	return sum
}

// hasSeries reports whether all stars of an expression exist.
func hasSeries(r api.Ring, x *expression) bool {
	for _, part := range x.parts {
		if !hasSeries(r, part) {
			return false
		}
	}
	if x.node.Op != api.EStar {
		return true
	}
	_, err := semiring.Star(r, oracle{r, nil, map[question]api.Weight{}}.weight(x.parts[0], 0, 0))
	return err == api.OK
}

// allWords returns all words over so many symbols with at most so many symbols.
func allWords(symbols, most int) [][]int {
	out := [][]int{nil}
	for i := 0; i < len(out) && len(out[i]) < most; i++ {
		for symbol := 1; symbol <= symbols; symbol++ {
			out = append(out, append(slices.Clone(out[i]), symbol))
		}
	}
	return out
}

// checkWeight checks the weight of a word, and Constant if it is empty.
func checkWeight(t *testing.T, r api.Ring, symbols int, e []api.ENode, word []int, want api.Weight) {
	t.Helper()
	if got, err := regex.Weight(r, symbols, e, word); err != api.OK || !semiring.Equal(got, want) {
		t.Errorf("%v: %s gives %v the weight %v, %v, not %v", r, shown(r, e), word, got, err, want)
	}
	if got, err := regex.Constant(r, symbols, e); len(word) == 0 && (err != api.OK || !semiring.Equal(got, want)) {
		t.Errorf("%v: %s gives the empty word the weight %v, %v, not %v", r, shown(r, e), got, err, want)
	}
}

// checkTexts checks the weights of words, which are written as the names of their symbols, a, b or c, without spaces.
func checkTexts(t *testing.T, r api.Ring, text string, want map[string]string) {
	t.Helper()
	e := mustParse(t, r, text)
	for name, weight := range want {
		var word []int
		for _, c := range name {
			word = append(word, int(c-'a')+1)
		}
		checkWeight(t, r, 3, e, word, read(t, r, weight))
	}
}

func TestOperations(t *testing.T) {
	for _, x := range []struct {
		text string
		want map[string]string
	}{
		{"0", map[string]string{"": "0", "a": "0", "b": "0", "ab": "0"}},
		{"1", map[string]string{"": "1", "a": "0", "aa": "0"}},
		{"a", map[string]string{"": "0", "a": "1", "b": "0", "aa": "0", "ab": "0", "ba": "0"}},
		{"c", map[string]string{"": "0", "a": "0", "c": "1", "cc": "0"}},
		{"[1/2]a", map[string]string{"": "0", "a": "1/2", "b": "0", "aa": "0"}},
		{"[1/2]1", map[string]string{"": "1/2", "a": "0"}},
		{"[0]a", map[string]string{"": "0", "a": "0"}},
		{"[2][-3/4]a", map[string]string{"a": "-3/2", "": "0"}},
		{"a + b", map[string]string{"": "0", "a": "1", "b": "1", "c": "0", "ab": "0"}},
		{"a + a", map[string]string{"a": "2", "aa": "0"}},
		{"[1/2]a + [-1/2]a", map[string]string{"a": "0"}},
		{"1 + a + 1", map[string]string{"": "2", "a": "1", "aa": "0"}},
		{"a b", map[string]string{"": "0", "a": "0", "b": "0", "ab": "1", "ba": "0", "aab": "0", "abb": "0"}},
		{"a b c", map[string]string{"abc": "1", "ab": "0", "bc": "0", "abcc": "0"}},
		{"(1 + a) (1 + a)", map[string]string{"": "1", "a": "2", "aa": "1", "aaa": "0", "b": "0"}},
		{"([2]1 + [3]a) ([5]1 + [7]a b)", map[string]string{"": "10", "a": "15", "ab": "14", "aab": "21", "b": "0"}},
		{"a 0", map[string]string{"": "0", "a": "0"}},
		{"0 a", map[string]string{"": "0", "a": "0"}},
		{"a*", map[string]string{"": "1", "a": "1", "aaaa": "1", "aab": "0", "b": "0"}},
		{"0*", map[string]string{"": "1", "a": "0"}},
		{"([1/2]1)*", map[string]string{"": "2", "a": "0"}},
		{"([1/2]1 + a)*", map[string]string{"": "2", "a": "4", "aa": "8", "aaa": "16", "ab": "0"}},
		{"(a + [2]b)*", map[string]string{"": "1", "a": "1", "b": "2", "abba": "4", "abc": "0"}},
		{"(a b)*", map[string]string{"": "1", "a": "0", "b": "0", "ab": "1", "abab": "1", "aba": "0", "abba": "0"}},
		{"a* b", map[string]string{"": "0", "b": "1", "aab": "1", "a": "0", "aba": "0"}},
		{"a b*", map[string]string{"": "0", "a": "1", "abb": "1", "b": "0", "aba": "0"}},
		{"a* a*", map[string]string{"": "1", "a": "2", "aa": "3", "aaaa": "5", "b": "0"}},
		{"a* + a*", map[string]string{"": "2", "a": "2", "aa": "2"}},
		{"(a* b)*", map[string]string{"": "1", "b": "1", "ab": "1", "aabbab": "1", "a": "0", "ba": "0"}},
		{"([1/2]a*)*", nil},
		{"([1/2](a*))*", map[string]string{"": "2", "a": "2", "aa": "4", "aaa": "8", "aaaaaa": "64", "b": "0"}},
		{"([1/2]([1/3]((b + a)*) + a)*)* c", nil},
		{"([1/2](([1/2](a*))*)) b", map[string]string{"b": "1", "ab": "1", "aab": "2", "": "0", "a": "0"}},
		{"(a + a a)*", map[string]string{"": "1", "a": "1", "aa": "2", "aaa": "3", "aaaa": "5", "aaaaa": "8"}},
		{"(a (b a)*)* b", map[string]string{"b": "1", "ab": "1", "abab": "1", "abaab": "1", "abb": "0", "": "0"}},
	} {
		if x.want == nil {
			checkStuck(t, rational(), mustParse(t, rational(), x.text))
			continue
		}
		checkTexts(t, rational(), x.text, x.want)
	}
}

func TestOperationsOfOtherRings(t *testing.T) {
	checkTexts(t, api.Ring{Kind: api.Tropical}, "([3]a + [1]1) ([2]a + [4]1)*", map[string]string{"": "1", "a": "3", "aa": "5", "b": "inf"})
	checkTexts(t, api.Ring{Kind: api.Tropical}, "[1099511627776]a*", map[string]string{"": "0", "a": "1099511627776", "aa": "inf"})
	checkTexts(t, api.Ring{Kind: api.Tropical}, "([1099511627775]a + [1]b)*", map[string]string{"ab": "1099511627776", "abb": "inf", "bbb": "3"})
	checkTexts(t, api.Ring{Kind: api.Tropical}, "1** + a***", map[string]string{"": "0", "a": "0", "b": "inf"})
	checkTexts(t, api.Ring{Kind: api.Viterbi}, "([1/2]a + [1/3]a a)*", map[string]string{"": "1", "a": "1/2", "aa": "1/3", "aaa": "1/6", "aaaa": "1/9"})
	checkTexts(t, api.Ring{Kind: api.Sets}, "[00000000000000ff]a b + [000000000000ff0f]a*", map[string]string{"": "ffffffffffffffff", "a": "000000000000ff0f", "ab": "00000000000000ff", "aa": "000000000000ff0f", "b": "0000000000000000"})
	checkTexts(t, api.Ring{Kind: api.Polynomial}, "([a]a + [b+1/2]1)*", map[string]string{"": "64*b^5+32*b^4+16*b^3+8*b^2+4*b+2", "b": "0", "aaaaaa": "0", "aaaaa": "64*a^5"})
	checkTexts(t, api.Ring{Kind: api.Product, Parts: []int{api.Rational, api.Tropical}}, "([1/2|3]a + [2|0]a)*", map[string]string{"": "1|0", "a": "5/2|0", "aa": "25/4|0", "b": "0|inf"})
}

func TestTheExample(t *testing.T) {
	e := mustParse(t, rational(), "[1/2] a*")
	want := of(api.EStar, scaled(read(t, rational(), "1/2"), letter(1))).list()
	if !sameLists(e, want) {
		t.Errorf("%v, not %v", e, want)
	}
	half, weight := read(t, rational(), "1/2"), semiring.One(rational())
	for n := range api.MaxWord + 1 {
		checkWeight(t, rational(), 1, e, slices.Repeat([]int{1}, n), weight)
		weight = semiring.Times(rational(), weight, half)
	}
	checkStuck(t, rational(), mustParse(t, rational(), "1*"))
}

func TestRandomExpressions(t *testing.T) {
	source := rand.New(rand.NewSource(1))
	words := allWords(2, 3)
	for _, s := range ringCases() {
		found := [2]int{}
		for i := range 200 {
			x := random(t, source, s, 2+i%5)
			e := x.list()
			if len(e) > 40 {
				continue
			}
			if !hasSeries(s.ring, x) {
				found[0]++
				checkStuck(t, s.ring, e)
				continue
			}
			found[1]++
			for _, word := range words {
				checkWeight(t, s.ring, 2, e, word, oracle{s.ring, word, map[question]api.Weight{}}.weight(x, 0, len(word)))
			}
		}
		if found[1] < 100 || len(s.stuck) > 0 && found[0] < 5 {
			t.Errorf("%v: %v expressions without and with a series", s.ring, found)
		}
	}
}

func TestRandomExpressionsOfLongerWords(t *testing.T) {
	source := rand.New(rand.NewSource(2))
	for _, s := range ringCases() {
		for range 40 {
			x := random(t, source, s, 5)
			if len(x.list()) > 30 || !hasSeries(s.ring, x) {
				continue
			}
			var word []int
			for range 5 + source.Intn(12) {
				word = append(word, 1+source.Intn(2))
			}
			checkWeight(t, s.ring, 2, x.list(), word, oracle{s.ring, word, map[question]api.Weight{}}.weight(x, 0, len(word)))
		}
	}
}

// checkStuck checks that an expression over three symbols has no series.
func checkStuck(t *testing.T, r api.Ring, e []api.ENode) {
	t.Helper()
	if w, err := regex.Constant(r, 3, e); err != api.ErrStar || !semiring.Equal(w, api.Weight{}) {
		t.Errorf("%v: Constant of %s is %v, %v", r, shown(r, e), w, err)
	}
	for _, word := range [][]int{nil, {1}, {1, 2}, {4}, {0}, {-1}, make([]int, api.MaxWord+1)} {
		if w, err := regex.Weight(r, 3, e, word); err != api.ErrStar || !semiring.Equal(w, api.Weight{}) {
			t.Errorf("%v: %s gives %v the weight %v, %v", r, shown(r, e), word, w, err)
		}
	}
}

func TestStarsThatDoNotExist(t *testing.T) {
	for _, s := range ringCases() {
		for _, stuck := range s.stuck {
			star := "(([" + stuck + "]1)*)"
			for _, text := range []string{
				"%", "% a", "a %", "% + a", "a + %", "0 %", "% 0", "[" + s.zero + "]%", "[" + s.zero + "]% + a", "a* b + a b c (0 %)", "(b %)*", "(% 0)*", "(0 (a + %))* b",
				"(% 0 + 1 0)*", "(a % b)* a", "[" + s.one + "][" + s.zero + "](0 %)",
			} {
				checkStuck(t, s.ring, mustParse(t, s.ring, strings.ReplaceAll(text, "%", star)))
			}
			// The same weight where it does no harm.
			for _, text := range []string{"[%]1", "[%]a*", "([%]1 0)*", "([%]a + [%]b)*", "[%](a*)", "(a [%]1)*"} {
				if _, err := regex.Constant(s.ring, 3, mustParse(t, s.ring, strings.ReplaceAll(text, "%", stuck))); err != api.OK {
					t.Errorf("%v: %q with %s: %v", s.ring, text, stuck, err)
				}
			}
		}
	}
	for _, text := range []string{"1*", "a**", "(1 + a)*", "a* 1*", "(a* a*)*", "([1/2]1 + [1/2]1)*", "([1/2]1)**", "(a* + 0)*", "([2]1)*", "([-1]1)*", "0**"} {
		checkStuck(t, rational(), mustParse(t, rational(), text))
	}
	for _, kind := range []int{api.Tropical, api.Viterbi, api.Sets} {
		for _, text := range []string{"1*", "a**", "(1 + a)*", "(a* a*)*", "(a* b*)**"} {
			r := api.Ring{Kind: kind}
			checkWeight(t, r, 3, mustParse(t, r, text), nil, semiring.One(r))
		}
	}
	// These have the sum of their weights in the unit interval, or none of them 1 in absolute value.
	for text, want := range map[string]string{"([1/2]1 + [-1]1)*": "2/3", "([2]1 + [-2]1)*": "1", "([-1/2]1)**": "3", "([3]1 [1/4]1)*": "4", "([1/2](0*))*": "2", "([999/1000]1)*": "1000"} {
		checkTexts(t, rational(), text, map[string]string{"": want, "a": "0"})
	}
}

func TestWordsThatAreNotValid(t *testing.T) {
	for _, s := range ringCases() {
		e := mustParse(t, s.ring, "a (a + b)* + 1")
		for _, word := range [][]int{{0}, {-1}, {3}, {1, 2, 0}, {1, 1, 3}, {33}, make([]int, api.MaxWord+1), slices.Repeat([]int{1}, api.MaxWord+1)} {
			if w, err := regex.Weight(s.ring, 2, e, word); err != api.ErrLabels || !semiring.Equal(w, api.Weight{}) {
				t.Errorf("%v: %v has the weight %v, %v", s.ring, word, w, err)
			}
		}
		if _, err := regex.Weight(s.ring, 2, e, slices.Repeat([]int{1}, api.MaxWord)); err != api.OK {
			t.Errorf("%v: the longest word: %v", s.ring, err)
		}
		// Symbols that the expression does not have.
		checkWeight(t, s.ring, 3, e, []int{3}, semiring.Zero(s.ring))
		checkWeight(t, s.ring, api.MaxSymbols, e, []int{1, api.MaxSymbols}, semiring.Zero(s.ring))
	}
}

func TestLongWords(t *testing.T) {
	word := func(n int) []int { return slices.Repeat([]int{1}, n) }
	for _, x := range []struct {
		text string
		want func(n int) int
	}{
		{"a*", func(n int) int { return 1 }},
		{"a* a*", func(n int) int { return n + 1 }},
		{"a* a* a*", func(n int) int { return (n + 1) * (n + 2) / 2 }},
		{"a* (a a*)", func(n int) int { return n }},
		{"(a a)*", func(n int) int { return 1 - n%2 }},
		{"a (a a)* + [2]((a a a)*)", func(n int) int {
			if n%3 == 0 {
				return n%2 + 2
			}
			return n % 2
		}},
		{"([-1]a)*", func(n int) int { return 1 - 2*(n%2) }},
	} {
		e := mustParse(t, rational(), x.text)
		for n := 0; n <= api.MaxWord; n += 1 + n/20 {
			checkWeight(t, rational(), 1, e, word(n), read(t, rational(), fmt.Sprint(x.want(n))))
		}
		checkWeight(t, rational(), 1, e, word(api.MaxWord), read(t, rational(), fmt.Sprint(x.want(api.MaxWord))))
	}
	// Each word of n symbols has the weight 2^n here, but for the empty one.
	e := mustParse(t, rational(), "([1/2](a*))*")
	weight := read(t, rational(), "1")
	for n := 1; n <= api.MaxWord; n++ {
		weight = semiring.Times(rational(), weight, read(t, rational(), "2"))
		checkWeight(t, rational(), 1, e, word(n), weight)
	}
}

func TestLongWordsOfLargeExpressions(t *testing.T) {
	// Where stars and products stand within one another, there are very many ways to write a word.
	for _, s := range ringCases() {
		star := of(api.EStar, scaled(read(t, s.ring, s.one), of(api.ESum, letter(1), letter(2))))
		x := star
		for i := range 8 {
			x = of(api.EStar, of(api.EProduct, letter(1+i%2), of(api.EProduct, x, of(api.ESum, letter(1), of(api.EProduct, letter(2), star)))))
		}
		word := make([]int, api.MaxWord)
		for i := range word {
			word[i] = 1 + i*i%3%2
		}
		start := time.Now()
		if _, err := regex.Weight(s.ring, 2, x.list(), word); err != api.OK {
			t.Errorf("%v: %v", s.ring, err)
		}
		if used := time.Since(start); used > 20*time.Second {
			t.Errorf("%v: a word of %d symbols takes %v", s.ring, len(word), used)
		}
	}
}

func TestErrorsInOrder(t *testing.T) {
	stuck := []api.ENode{{Op: api.EStar}, {Op: api.EOne}}
	for _, x := range []struct {
		e    []api.ENode
		word []int
		want api.Errno
	}{
		{nil, []int{1}, api.ErrForm},
		{stuck[:1], []int{9}, api.ErrForm},
		{append(slices.Clone(stuck), api.ENode{Op: api.EOne}), []int{9}, api.ErrForm},
		{append([]api.ENode{{Op: api.ESum}}, append(slices.Clone(stuck), api.ENode{Op: api.ESymbol, Num: 3})...), []int{9}, api.ErrForm},
		{stuck, []int{9}, api.ErrStar},
		{stuck, nil, api.ErrStar},
		{stuck[1:], []int{9}, api.ErrLabels},
		{stuck[1:], []int{2}, api.OK},
	} {
		if _, err := regex.Weight(rational(), 2, x.e, x.word); err != x.want {
			t.Errorf("%v, %v: %v, not %v", x.e, x.word, err, x.want)
		}
	}
}

func TestDistribution(t *testing.T) {
	source := rand.New(rand.NewSource(3))
	for _, s := range ringCases() {
		for range 60 {
			x, y, z := random(t, source, s, 3), random(t, source, s, 3), random(t, source, s, 3)
			left := of(api.EProduct, of(api.ESum, x, y), z).list()
			right := of(api.ESum, of(api.EProduct, x, z), of(api.EProduct, y, z)).list()
			for _, word := range allWords(2, 4) {
				v, err := regex.Weight(s.ring, 2, left, word)
				w, errOfRight := regex.Weight(s.ring, 2, right, word)
				if err != errOfRight || !semiring.Equal(v, w) {
					t.Errorf("%v: %s gives %v the weight %v, %v, but %v, %v", s.ring, shown(s.ring, left), word, v, err, w, errOfRight)
				}
			}
		}
	}
}
