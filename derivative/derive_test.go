package derivative_test

import (
	"math/rand"
	"slices"
	"strings"
	"testing"

	"weighted/api"
	"weighted/derivative"
	"weighted/regex"
	"weighted/semiring"
)

// checkTexts checks the weights that a derivative gives words, all of them written as texts.
func checkTexts(t *testing.T, r api.Ring, text, symbol string, want map[string]string) {
	t.Helper()
	e := mustParse(t, r, text)
	d := mustDerive(t, r, 3, e, letters(symbol)[0])
	for word, weight := range want {
		if got := semiring.Format(r, mustWeight(t, r, 3, d, letters(word))); got != weight {
			t.Errorf("%v: the derivative of %s by %s is %s, which gives %q the weight %s, not %s", r, text, symbol, shown(r, d), word, got, weight)
		}
	}
	checkDerivatives(t, r, 3, e, allWords(3, 3))
}

func TestOperations(t *testing.T) {
	nothing := map[string]string{"": "0", "a": "0", "b": "0", "ab": "0"}
	for _, x := range []struct {
		text, symbol string
		want         map[string]string
	}{
		{"0", "a", nothing}, {"1", "a", nothing}, {"b", "a", nothing}, {"[1/2]b", "a", nothing}, {"[0]a", "a", nothing},
		{"b + c", "a", nothing}, {"b a", "a", nothing}, {"b* b", "a", nothing}, {"(b a)*", "a", nothing}, {"0 a", "a", nothing}, {"a 0", "a", nothing}, {"(0 a)*", "a", nothing},
		{"a", "a", map[string]string{"": "1", "a": "0", "b": "0", "aa": "0"}},
		{"c", "c", map[string]string{"": "1", "c": "0"}},
		{"[1/2]a", "a", map[string]string{"": "1/2", "a": "0"}},
		{"[2][-3/4]a", "a", map[string]string{"": "-3/2"}},
		{"a + b", "a", map[string]string{"": "1", "a": "0", "b": "0"}},
		{"a + a", "a", map[string]string{"": "2", "a": "0"}},
		{"[1/2]a + [-1/2]a", "a", nothing},
		{"[1/2](a b) + [-1/2](a b)", "a", nothing},
		{"[1/2](a b) + [-1/3](a b) + a c", "a", map[string]string{"b": "1/6", "c": "1", "": "0"}},
		{"a b", "a", map[string]string{"b": "1", "": "0", "a": "0", "bb": "0"}},
		{"a b c", "a", map[string]string{"bc": "1", "b": "0", "c": "0"}},
		{"(1 + a) (1 + a)", "a", map[string]string{"": "2", "a": "1", "aa": "0"}},
		{"([2]1 + [3]a) ([5]1 + [7]a b)", "a", map[string]string{"": "15", "b": "14", "ab": "21", "a": "0"}},
		{"[3]a [5]b", "a", map[string]string{"b": "15", "": "0"}},
		{"a b + a c", "a", map[string]string{"b": "1", "c": "1", "": "0", "bc": "0"}},
		{"a*", "a", map[string]string{"": "1", "aa": "1", "b": "0"}},
		{"([1/2]a)*", "a", map[string]string{"": "1/2", "a": "1/4", "aa": "1/8"}},
		{"([1/2]1 + a)*", "a", map[string]string{"": "4", "a": "8", "aa": "16", "ab": "0"}},
		{"(a b)*", "a", map[string]string{"b": "1", "bab": "1", "": "0", "ba": "0"}},
		{"a* b", "b", map[string]string{"": "1", "b": "0", "a": "0"}},
		{"a b*", "a", map[string]string{"": "1", "b": "1", "bb": "1", "a": "0"}},
		{"a* a*", "a", map[string]string{"": "2", "a": "3", "aaa": "5"}},
		{"a* + [2]a*", "a", map[string]string{"": "3", "a": "5", "aa": "9"}},
		{"a* + [2](a*)", "a", map[string]string{"": "3", "a": "3", "aa": "3"}},
		{"(a* b)*", "a", map[string]string{"b": "1", "ab": "1", "bab": "1", "": "0"}},
		{"([1/2](a*))*", "a", map[string]string{"": "2", "a": "4", "aa": "8", "aaaaa": "64", "b": "0"}},
		{"([1/2](([1/2](a*))*) b)*", "a", map[string]string{"b": "1", "ab": "2", "bab": "1", "": "0"}},
		{"(a (b a)*)* b", "a", map[string]string{"b": "1", "bab": "1", "baab": "1", "ab": "1", "": "0"}},
		{"([1/3]((a + b)*) + [1/3](b* a))* (a* b)", "b", map[string]string{"": "3/2", "b": "3/4"}},
	} {
		checkTexts(t, rational(), x.text, x.symbol, x.want)
	}
}

func TestOperationsOfOtherRings(t *testing.T) {
	checkTexts(t, api.Ring{Kind: api.Tropical}, "([3]a + [1]1) ([2]a + [4]1)*", "a", map[string]string{"": "3", "a": "5", "b": "inf"})
	checkTexts(t, api.Ring{Kind: api.Tropical}, "a** + [1099511627776]a", "a", map[string]string{"": "0", "a": "0", "b": "inf"})
	checkTexts(t, api.Ring{Kind: api.Tropical}, "[1099511627776]a ([1]b)*", "a", map[string]string{"": "1099511627776", "b": "inf"})
	checkTexts(t, api.Ring{Kind: api.Viterbi}, "([1/2]a + [1/3]a a)*", "a", map[string]string{"": "1/2", "a": "1/3", "aa": "1/6", "aaa": "1/9"})
	checkTexts(t, api.Ring{Kind: api.Sets}, "[00000000000000ff]a b + [000000000000ff0f]a*", "a", map[string]string{"": "000000000000ff0f", "b": "00000000000000ff", "a": "000000000000ff0f", "c": "0000000000000000"})
	checkTexts(t, api.Ring{Kind: api.Sets}, "[000000000000000f]a [00000000000000f0]b", "a", map[string]string{"": "0000000000000000", "b": "0000000000000000"})
	checkTexts(t, api.Ring{Kind: api.Polynomial}, "([a]a + [b+1/2]1)*", "a", map[string]string{"b": "0", "aaaaa": "0", "aaaa": "64*a^5"})
	checkTexts(t, api.Ring{Kind: api.Product, Parts: []int{api.Rational, api.Tropical}}, "([1/2|3]a + [2|0]a)*", "a", map[string]string{"": "5/2|0", "a": "25/4|0", "b": "0|inf"})
	checkTexts(t, api.Ring{Kind: api.Product, Parts: []int{api.Rational, api.Rational}}, "[1|0]a b + [0|1]a b", "a", map[string]string{"b": "1|1", "": "0|0"})
}

func TestTheExample(t *testing.T) {
	e := mustParse(t, rational(), "a* b")
	same, end := mustDerive(t, rational(), 2, e, 1), mustDerive(t, rational(), 2, e, 2)
	for _, word := range allWords(2, 6) {
		if got, want := mustWeight(t, rational(), 2, same, word), mustWeight(t, rational(), 2, e, word); !semiring.Equal(got, want) {
			t.Errorf("by a: %v has the weight %v, not %v", word, got, want)
		}
		want := semiring.Zero(rational())
		if len(word) == 0 {
			want = semiring.One(rational())
		}
		if got := mustWeight(t, rational(), 2, end, word); !semiring.Equal(got, want) {
			t.Errorf("by b: %v has the weight %v, not %v", word, got, want)
		}
	}
}

// allExpressions returns all expressions over the symbols a and b with exactly so many operations and one factor, by numbers of operations.
func allExpressions(t *testing.T, w api.Weight, most int) [][][]api.ENode {
	t.Helper()
	out := [][][]api.ENode{nil, {of(api.EZero), of(api.EOne), letter(1), letter(2)}}
	for size := 2; size <= most; size++ {
		var list [][]api.ENode
		for _, x := range out[size-1] {
			list = append(list, scaled(w, x), of(api.EStar, x))
		}
		for first := 1; first < size-1; first++ {
			for _, x := range out[first] {
				for _, y := range out[size-1-first] {
					list = append(list, of(api.ESum, x, y), of(api.EProduct, x, y))
				}
			}
		}
		out = append(out, list)
	}
	return out
}

func TestAllSmallExpressions(t *testing.T) {
	words := allWords(2, 3)
	for _, s := range ringCases() {
		all := allExpressions(t, read(t, s.ring, s.others[0]), 5)
		found := 0
		for size, list := range all {
			// All expressions of five operations take their time, so that one ring has to do.
			if size == 5 && s.ring.Kind != api.Rational {
				continue
			}
			for _, e := range list {
				if hasSeries(t, s.ring, 2, e) {
					found++
					checkDerivatives(t, s.ring, 2, e, words)
				} else {
					checkErrors(t, s.ring, 2, e, 1, api.ErrStar, api.ErrStar)
				}
			}
		}
		if found < 200 {
			t.Errorf("%v: %d expressions", s.ring, found)
		}
	}
}

func TestRandomExpressions(t *testing.T) {
	source := rand.New(rand.NewSource(1))
	words := allWords(2, 3)
	for _, s := range ringCases() {
		found := 0
		for i := range 300 {
			e := random(t, source, s.ring, s.others, 6+i%11, api.MaxDepth)
			if hasSeries(t, s.ring, 2, e) {
				found++
				checkDerivatives(t, s.ring, 2, e, words)
			}
		}
		if found < 100 {
			t.Errorf("%v: %d expressions", s.ring, found)
		}
	}
}

// starred returns the rings in which all weights have a Star, so that stars may stand everywhere.
func starred() []ringCase {
	return slices.DeleteFunc(ringCases(), func(s ringCase) bool {
		return s.ring.Kind != api.Tropical && s.ring.Kind != api.Viterbi && s.ring.Kind != api.Sets
	})
}

func TestSixteenOperations(t *testing.T) {
	source := rand.New(rand.NewSource(2))
	for _, s := range starred() {
		for i := range 3000 {
			e := random(t, source, s.ring, s.others, 16, 5+i%12)
			if len(e) != 16 {
				t.Fatalf("%d operations", len(e))
			}
			mustDerive(t, s.ring, 2, e, 1)
		}
	}
}

func TestNestedStars(t *testing.T) {
	for _, s := range starred() {
		w := read(t, s.ring, s.others[1])
		star := letter(1)
		for stars := 1; stars <= 15; stars++ {
			star = of(api.EStar, star)
			for _, e := range [][]api.ENode{
				star, of(api.EStar, scaled(w, star)), of(api.ESum, star, letter(2)), of(api.EProduct, letter(2), star), of(api.EProduct, star, letter(2)),
				of(api.EProduct, star, star), of(api.ESum, star, of(api.EProduct, letter(1), star)), nested(stars, w, scaled(w, letter(1))),
			} {
				if len(e) <= 16 {
					checkDerivatives(t, s.ring, 2, e, allWords(2, 3))
				}
			}
		}
		// What is behind each a is different, but for the stars.
		for _, text := range []string{"a b + a c", "a b + a", "a b b + a c", "(a + b) (a + c)", "a* b + a c", "a (a + b) + a", "a b + a c + a", "[v]a b + a c"} {
			e := mustParse(t, s.ring, strings.ReplaceAll(text, "v", s.others[1]))
			for len(e) < 16 {
				e = of(api.EStar, e)
			}
			checkDerivatives(t, s.ring, 3, e, allWords(3, 2))
		}
	}
}

func TestSixteenOperationsOverOtherRings(t *testing.T) {
	for _, s := range ringCases() {
		small := s.others[len(s.others)-1]
		if s.ring.Kind == api.Rational {
			small = "1/2"
		}
		w := read(t, s.ring, small)
		for _, e := range [][]api.ENode{
			nested(7, w, of(api.EStar, letter(1))), nested(6, w, of(api.ESum, letter(1), letter(2))), nested(6, w, of(api.EProduct, of(api.EStar, letter(1)), letter(2))),
			nested(5, w, of(api.ESum, of(api.EProduct, letter(1), letter(2)), scaled(w, letter(1)))), nested(2, w, of(api.ESum, nested(2, w, letter(1)), of(api.EProduct, letter(1), nested(1, w, letter(2))))),
		} {
			if len(e) <= 16 && hasSeries(t, s.ring, 2, e) {
				checkDerivatives(t, s.ring, 2, e, allWords(2, 3))
			}
		}
	}
}

func TestMoreOperations(t *testing.T) {
	source := rand.New(rand.NewSource(3))
	words := allWords(2, 2)
	for _, s := range ringCases() {
		small := 0
		for i := range 104 {
			e := random(t, source, s.ring, s.others, 17+i*i/58, 9+i%32)
			if hasSeries(t, s.ring, 2, e) && !checkDerivatives(t, s.ring, 2, e, words) {
				small++
			}
		}
		if small < 10 {
			t.Errorf("%v: %d expressions of more than 16 operations have derivatives", s.ring, small)
		}
	}
}

func TestLimitsOfExpressions(t *testing.T) {
	r := rational()
	chain := func(op, count int, first, last []api.ENode) []api.ENode {
		e := last
		for range count {
			e = of(op, first, e)
		}
		return e
	}
	many := func(op, count int) []api.ENode {
		var list [][]api.ENode
		for i := range count {
			list = append(list, letter(1+i%2))
		}
		return balanced(op, list)
	}
	for name, x := range map[string]struct {
		e       []api.ENode
		isLimit bool
	}{
		"a sum of 199 operations":             {many(api.ESum, 100), false},
		"a product of 199 operations":         {many(api.EProduct, 100), false},
		"200 operations":                      {scaled(read(t, r, "2"), many(api.EProduct, 100)), false},
		"a star of 199 operations":            {of(api.EStar, many(api.EProduct, 100)), true},
		"a star of 97 operations":             {of(api.EStar, many(api.EProduct, 49)), false},
		"products of 40 levels":               {chain(api.EProduct, 39, letter(1), letter(2)), false},
		"sums of 40 levels":                   {chain(api.ESum, 39, letter(1), letter(2)), false},
		"39 levels behind a symbol":           {of(api.EProduct, letter(1), chain(api.ESum, 38, letter(1), letter(2))), false},
		"a star of 40 levels":                 {of(api.EStar, chain(api.ESum, 38, of(api.EZero), letter(2))), false},
		"a star of 40 levels with a factor":   {of(api.EStar, chain(api.ESum, 38, letter(1), letter(2))), true},
		"a star of 40 levels behind a symbol": {of(api.EStar, of(api.EProduct, letter(1), chain(api.ESum, 37, letter(1), letter(2)))), true},
	} {
		if !regex.Valid(r, 2, x.e) {
			t.Fatalf("%s: %d operations are not valid", name, len(x.e))
		}
		if got := checkDerivatives(t, r, 2, x.e, allWords(2, 3)); got != x.isLimit {
			t.Errorf("%s: ErrLimit is %v", name, got)
		}
	}
	for _, s := range ringCases() {
		for stars := 16; stars < api.MaxDepth; stars++ {
			e := letter(1)
			for range stars {
				e = of(api.EStar, e)
			}
			if hasSeries(t, s.ring, 1, e) {
				checkDerivatives(t, s.ring, 1, e, allWords(1, 2))
			}
		}
	}
}

// levels returns the number of levels of an expression, and what stands behind it in a list.
func levels(e []api.ENode) (n int, rest []api.ENode) {
	operands := 0
	switch e[0].Op {
	case api.EScale, api.EStar:
		operands = 1
	case api.ESum, api.EProduct:
		operands = 2
	}
	rest = e[1:]
	for range operands {
		var m int
		m, rest = levels(rest)
		n = max(n, m)
	}
	return n + 1, rest
}

func TestDeepFactors(t *testing.T) {
	// A deep factor beside others comes to stand at most two levels below the product, wherever it is.
	r := rational()
	for count := range 12 {
		for at := range count + 1 {
			var factors [][]api.ENode
			for i := range count {
				factors = append(factors, letter(1+i%2))
			}
			for _, deep := range []string{"((((((((a + b) b + a) b + a)* b + a) b)* a + b) b + a) b + a)* + b", "(a + (b + (a + (b + (a + (b + (a + (b + a))))))))*"} {
				list := slices.Insert(slices.Clone(factors), at, mustParse(t, r, deep))
				most, _ := levels(list[at])
				if count > 0 {
					most++
				}
				if at > 0 && at < count {
					most++
				}
				d := mustDerive(t, r, 3, of(api.EProduct, letter(3), balanced(api.EProduct, list)), 3)
				if n, _ := levels(d); n > most {
					t.Errorf("%d of %d factors in front of a deep one: %d levels, not %d", at, count, n, most)
				}
			}
		}
	}
}

func TestDerivativesAreSmall(t *testing.T) {
	for _, x := range []struct {
		text, symbol string
		most         int
	}{
		{"b", "a", 1}, {"b* a 0 + b", "a", 1}, {"[0]a", "a", 1}, {"[1/2](a b) + [-1/2](a b)", "a", 1},
		{"a", "a", 1}, {"a b", "a", 1}, {"a* b", "a", 4}, {"a* b", "b", 1}, {"1 a 1 b 1", "a", 1}, {"[1]a [1]b", "a", 1},
		{"a b + a b", "a", 2}, {"[2]a [3]b", "a", 2}, {"[2](a b + a c)", "a", 4}, {"[2]a b + [3]a c", "a", 5}, {"[2]a b + [2]a c + a", "a", 7},
		{"(a b + a c)*", "a", 12}, {"((a b + a c) a + a) b", "a", 9}, {"((a b + a c) a + a b) b", "a", 9}, {"[1/2](([1/3]a)* b)", "a", 6}, {"(a + b) (a + b)", "a", 3},
		{"a b c + (b + a) (b c)", "a", 4},
	} {
		e := mustParse(t, rational(), x.text)
		d := mustDerive(t, rational(), 3, e, letters(x.symbol)[0])
		checkSeries(t, rational(), 3, e, letters(x.symbol)[0], d, allWords(3, 3))
		if len(d) > x.most {
			t.Errorf("the derivative of %s by %s is %s, with more than %d operations", x.text, x.symbol, shown(rational(), d), x.most)
		}
	}
}

// checkWord checks that the derivative by a word, symbol after symbol, has the weight of the word as Constant. It reports whether there is one: ErrLimit is allowed for more than 16 operations.
func checkWord(t *testing.T, r api.Ring, symbols int, e []api.ENode, word []int) bool {
	t.Helper()
	d := e
	for _, symbol := range word {
		next, err := derivative.Derive(r, symbols, d, symbol)
		if err == api.ErrLimit && len(d) > 16 {
			return false
		}
		if err != api.OK || !regex.Valid(r, symbols, next) {
			t.Errorf("%v: the derivative of %s by %d, by %v from %s, is %v, %v", r, shown(r, d), symbol, word, shown(r, e), next, err)
			return false
		}
		d = next
	}
	got, err := regex.Constant(r, symbols, d)
	if want := mustWeight(t, r, symbols, e, word); err != api.OK || !semiring.Equal(got, want) {
		t.Errorf("%v: the derivative of %s by %v is %s with the Constant %v, %v, not %v", r, shown(r, e), word, shown(r, d), got, err, want)
	}
	return true
}

func TestDerivativesByWords(t *testing.T) {
	source := rand.New(rand.NewSource(4))
	for _, s := range ringCases() {
		found, whole := 0, 0
		for i := range 200 {
			e := random(t, source, s.ring, s.others, 1+i%16, api.MaxDepth)
			if !hasSeries(t, s.ring, 2, e) {
				continue
			}
			for range 4 {
				var word []int
				for range source.Intn(8) {
					word = append(word, 1+source.Intn(2))
				}
				found++
				if checkWord(t, s.ring, 2, e, word) {
					whole++
				}
			}
		}
		if found < 300 || whole < found*9/10 {
			t.Errorf("%v: derivatives by %d of %d words", s.ring, whole, found)
		}
	}
}

func TestDerivativesByLongWords(t *testing.T) {
	// Each of these has few terms, however long the word is, so that no derivative is too large.
	for text, isEndless := range map[string]bool{
		"a* b": true, "a* a*": true, "(a b)*": true, "([1/2](a* a*))*": true, "([1/2](a*))*": true, "([1/3]((a* b)*) + [1/3]((b* a)*))*": true, "a b a b": false,
		"([1/2]a + [1/3]b)* a ([1/2]a + [1/3]b)* b": true, "(a + b)* a (a + b) (a + b)": true, "a* (b a*)* + [2](a (b a*)*)": true, "[2]a ([3]b ([1/5](a* b*))*)": true,
	} {
		e := mustParse(t, rational(), text)
		source := rand.New(rand.NewSource(5))
		var word []int
		for range 60 {
			word = append(word, 1+source.Intn(2))
		}
		if !checkWord(t, rational(), 2, e, word) {
			t.Errorf("%s: ErrLimit on the way along %v", text, word)
		}
		d := e
		for _, symbol := range word {
			d = mustDerive(t, rational(), 2, d, symbol)
		}
		if w := mustWeight(t, rational(), 2, d, nil); !isEndless && (len(d) != 1 || !semiring.Equal(w, semiring.Zero(rational()))) {
			t.Errorf("%s: %s is left", text, shown(rational(), d))
		}
	}
}

func TestWeightsThatVanish(t *testing.T) {
	for _, s := range ringCases() {
		var sum []string
		for _, w := range s.opposed {
			sum = append(sum, "["+w+"](a b*)")
		}
		vanished := strings.Join(sum, " + ")
		for _, text := range []string{"%", "% + a b", "(%) b", "(%)*", "b* (%)", "[" + s.zero + "]a", "[" + s.zero + "]1 a", "a [" + s.zero + "]1", "a [" + s.zero + "]b + a b", "([" + s.zero + "]a)*", "a 0 + b", "(a 0)* a", "a (b + 0)"} {
			checkDerivatives(t, s.ring, 2, mustParse(t, s.ring, strings.ReplaceAll(text, "%", vanished)), allWords(2, 3))
		}
		for i, v := range s.others {
			w := s.others[(i+1)%len(s.others)]
			for _, text := range []string{"[v]a [w]b", "[v][w]a", "[v]a + [w]a", "[v](a b) + [w](a b)", "[v](a [w](b a*))", "[v]1 [w]a", "([v]a)* [w](a*)", "[v](a b a) + [w](a a)", "[v](a b a) + [v](a a) + [w](a b)"} {
				checkDerivatives(t, s.ring, 2, mustParse(t, s.ring, strings.NewReplacer("[v]", "["+v+"]", "[w]", "["+w+"]").Replace(text)), allWords(2, 3))
			}
		}
	}
}
