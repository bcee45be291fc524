package derivative_test

import (
	"math/rand"
	"slices"
	"strings"
	"testing"
	"time"

	"weighted/api"
	"weighted/automaton"
	"weighted/derivative"
	"weighted/semiring"
	"weighted/weigh"
)

// symbolsOf returns the number of operations ESymbol.
func symbolsOf(e []api.ENode) int {
	n := 0
	for _, x := range e {
		if x.Op == api.ESymbol {
			n++
		}
	}
	return n
}

// unreached returns the states of a normal form that no arcs lead to from a state whose Initial is not Zero, other than such states.
func unreached(n api.Auto) []int {
	isReached := make([]bool, n.States)
	for i, w := range n.Initial {
		isReached[i] = !semiring.Equal(w, semiring.Zero(n.Ring))
	}
	for range n.States {
		for _, x := range n.Arcs {
			isReached[x.To] = isReached[x.To] || isReached[x.From]
		}
	}
	var out []int
	for i, is := range isReached {
		if !is {
			out = append(out, i)
		}
	}
	return out
}

// checkAutomaton checks what the chapter says of the automaton of an expression, and the weights of words.
func checkAutomaton(t *testing.T, r api.Ring, symbols int, e []api.ENode, words [][]int) api.Auto {
	t.Helper()
	a, err := derivative.Automaton(r, symbols, e)
	if err != api.OK || !automaton.Valid(a) || !semiring.Same(a.Ring, r) || a.Symbols != symbols {
		t.Errorf("%v: Automaton of %s is %v, %v", r, shown(r, e), a, err)
		return a
	}
	if a.States > symbolsOf(e)+1 {
		t.Errorf("%v: Automaton of %s has %d states", r, shown(r, e), a.States)
	}
	if slices.ContainsFunc(a.Arcs, func(x api.Arc) bool { return x.Label == 0 }) {
		t.Errorf("%v: Automaton of %s has empty labels: %v", r, shown(r, e), a)
	}
	n, err := automaton.Normal(a)
	if left := unreached(n); err != api.OK || len(left) > 0 {
		t.Errorf("%v: Automaton of %s does not reach %v, %v: %v", r, shown(r, e), left, err, a)
	}
	for _, word := range words {
		got, err := weigh.Weight(a, word)
		if want := mustWeight(t, r, symbols, e, word); err != api.OK || !semiring.Equal(got, want) {
			t.Errorf("%v: Automaton of %s gives %v the weight %s, %v, not %s", r, shown(r, e), word, semiring.Format(r, got), err, semiring.Format(r, want))
			break
		}
	}
	return a
}

func TestAutomataOfTexts(t *testing.T) {
	for _, text := range []string{
		"a", "b", "a b", "a b c", "a + b", "a + a", "a*", "a* b", "a b*", "(a b)*", "(a + b)* a (a + b)", "a* a*", "([1/2](a* a*))*", "[1/2]a*", "[1/2](a*)", "[-3]a [1/7]b*", "(1 + a) (1 + a)",
		"([1/2]1 + [1/3](a b*))* c", "a (b + c) + b (b + c)", "(a b + a c)*", "[1/2](a b) + [-1/2](a b)", "a* (b* (c* a))", "(a* b)* (b a*)*",
	} {
		checkAutomaton(t, rational(), 3, mustParse(t, rational(), text), allWords(3, 4))
	}
	a := checkAutomaton(t, rational(), 3, mustParse(t, rational(), "a b + [1/2]c"), nil)
	for _, word := range []string{"ab", "c", "a", "b", "", "abc"} {
		want := map[string]string{"ab": "1", "c": "1/2"}[word]
		if want == "" {
			want = "0"
		}
		if w, err := weigh.Weight(a, letters(word)); err != api.OK || semiring.Format(a.Ring, w) != want {
			t.Errorf("%q has the weight %v, %v", word, w, err)
		}
	}
}

func TestAutomataWithoutSymbols(t *testing.T) {
	for _, s := range ringCases() {
		for _, text := range []string{"0", "1", "1 + 1", "1 1", "0 1", "1 + 0", "0*", "[v]1", "[v]0", "[v]1 + [v]1", "([v]0)* [v]1", "(0 1)*"} {
			for _, w := range s.others {
				a := checkAutomaton(t, s.ring, 3, mustParse(t, s.ring, strings.ReplaceAll(text, "[v]", "["+w+"]")), allWords(3, 2))
				if a.States > 1 || len(a.Arcs) > 0 {
					t.Errorf("%v: %s: %v", s.ring, text, a)
				}
			}
		}
	}
}

func TestAutomataOfAllSmallExpressions(t *testing.T) {
	words := allWords(2, 4)
	for _, s := range ringCases() {
		for size, list := range allExpressions(t, read(t, s.ring, s.others[0]), 5) {
			if size == 5 && s.ring.Kind != api.Rational {
				continue
			}
			for _, e := range list {
				if hasSeries(t, s.ring, 2, e) {
					checkAutomaton(t, s.ring, 2, e, words)
				}
			}
		}
	}
}

func TestAutomataOfRandomExpressions(t *testing.T) {
	source := rand.New(rand.NewSource(6))
	words := allWords(2, 4)
	for _, s := range ringCases() {
		found := 0
		for i := range 250 {
			// One in four has 40 operations, so that ErrLimit is not allowed by their number.
			size := 1 + i%40
			if i%4 == 0 {
				size = 40
			}
			e := random(t, source, s.ring, s.others, size, 7+i%34)
			if hasSeries(t, s.ring, 2, e) {
				found++
				checkAutomaton(t, s.ring, 2, e, words)
			}
		}
		if found < 50 {
			t.Errorf("%v: %d expressions", s.ring, found)
		}
	}
}

func TestAutomataOfFortyOperations(t *testing.T) {
	// Stars of sums and products with as many symbols as there may be, all with different states.
	for _, s := range ringCases() {
		small := s.one
		if s.ring.Kind == api.Rational || s.ring.Kind == api.Polynomial {
			small = "1/1000"
		}
		if s.ring.Kind == api.Product {
			small = s.others[0]
		}
		w := read(t, s.ring, small)
		var stars, pairs, letters [][]api.ENode
		for i := range 20 {
			letters = append(letters, letter(1+i))
			pairs = append(pairs, of(api.EProduct, letter(1+i), letter(20-i)))
			stars = append(stars, of(api.EStar, letter(1+i)))
		}
		words := [][]int{nil, {1}, {2}, {20}, {1, 20}, {20, 1}, {3, 3}, {1, 2, 3, 4, 5}, {1, 20, 2, 19, 1}, {9, 1, 20, 20, 9}}
		for _, e := range [][]api.ENode{
			of(api.EStar, balanced(api.ESum, letters)), of(api.EStar, balanced(api.EProduct, letters)), of(api.EStar, balanced(api.ESum, pairs[:10])),
			balanced(api.ESum, pairs[:10]), balanced(api.EProduct, stars[:13]), of(api.EStar, scaled(w, balanced(api.EProduct, stars[:13]))),
			of(api.EStar, scaled(w, balanced(api.ESum, stars[:12]))), of(api.EStar, scaled(w, balanced(api.EProduct, slices.Repeat(stars[:1], 12)))),
		} {
			if len(e) > 40 {
				t.Fatalf("%d operations", len(e))
			}
			if hasSeries(t, s.ring, 20, e) {
				checkAutomaton(t, s.ring, 20, e, words)
			}
		}
	}
}

func TestAutomataOfManySymbols(t *testing.T) {
	r := rational()
	words := [][]int{nil, {1}, {2}, {1, 1}, {1, 2}, {2, 1, 2}, {32}, {31, 32}, {32, 1, 1, 32}}
	for _, n := range []int{1, 2, 40, api.MaxStates - 2, api.MaxStates - 1, api.MaxStates, api.MaxStates + 1, 100} {
		var list, same [][]api.ENode
		for i := range n {
			list = append(list, letter(1+i%32))
			same = append(same, letter(1))
		}
		for _, e := range [][]api.ENode{
			balanced(api.ESum, list), balanced(api.EProduct, list), balanced(api.ESum, same), balanced(api.EProduct, same), scaled(read(t, r, "0"), balanced(api.EProduct, same)),
		} {
			if n >= api.MaxStates {
				checkErrors(t, r, 32, e, 0, api.ErrLabels, api.ErrLimit)
				continue
			}
			checkAutomaton(t, r, 32, e, append(slices.Clone(words), slices.Repeat([]int{1}, n)))
		}
		if n < api.MaxStates {
			checkAutomaton(t, r, 32, of(api.EStar, balanced(api.ESum, list)), words)
			// As many states as there may be.
			if a := checkAutomaton(t, r, 32, balanced(api.EProduct, same), nil); a.States != n+1 {
				t.Errorf("%d symbols in a row: %d states", n, a.States)
			}
		}
	}
}

func TestAutomataWithManyArcs(t *testing.T) {
	// Each of n symbols may follow each of them, and what is behind them is different.
	r := rational()
	words := [][]int{nil, {1}, {2}, {1, 1}, {1, 2}, {2, 1, 2}, {32}, {31, 32}}
	for n := 40; n <= 48; n++ {
		e := of(api.EStar, scaled(read(t, r, "1/100"), balanced(api.ESum, different(n))))
		if (n+1)*n > api.MaxArcs {
			checkErrors(t, r, 32, e, 0, api.ErrLabels, api.ErrLimit)
			continue
		}
		if a := checkAutomaton(t, r, 32, e, words); len(a.Arcs) != (n+1)*n {
			t.Errorf("%d symbols: %d arcs", n, len(a.Arcs))
		}
	}
}

func TestNumbersOfArcs(t *testing.T) {
	// The star of 44 symbols has 45 * 44 arcs, the symbol behind it one from each of the 45 states, each further one another arc, and the star at the end 4 * 4 and the 4 that lead to it.
	r := rational()
	small := read(t, r, "1/1000")
	end := mustParse(t, r, "([1/100](a* b* c* ([1/2]a)*))*")
	var stars [][]api.ENode
	for i := range 32 {
		stars = append(stars, of(api.EStar, letter(1+i)))
	}
	stars = append(stars, different(12)...)
	for n, want := range map[int]int{3: api.MaxArcs - 1, 4: api.MaxArcs, 5: api.MaxArcs + 1} {
		list := [][]api.ENode{of(api.EStar, scaled(small, balanced(api.ESum, stars)))}
		for range n {
			list = append(list, letter(3))
		}
		list = append(list, end)
		e := balanced(api.EProduct, list)
		if want > api.MaxArcs {
			checkErrors(t, r, 32, e, 0, api.ErrLabels, api.ErrLimit)
		} else if a := checkAutomaton(t, r, 32, e, nil); len(a.Arcs) != want {
			t.Errorf("%d arcs, not %d", len(a.Arcs), want)
		}
	}
}

func TestStatesThatWeightsDoNotReach(t *testing.T) {
	for _, s := range ringCases() {
		var sum []string
		for _, w := range s.opposed {
			sum = append(sum, "["+w+"](a c b)")
		}
		vanished := strings.Join(sum, " + ")
		for _, text := range []string{"%", "% + a b", "(%)* b", "a (%)", "b* (%)", "[z](a b c)", "a [z]b c", "[z]a b + c", "([z]a)* b", "a 0 b", "0 a b", "a (0 b)", "(a 0)* b", "[z]1 a b", "(a [z]b + c)* a"} {
			a := checkAutomaton(t, s.ring, 3, mustParse(t, s.ring, strings.NewReplacer("%", vanished, "[z]", "["+s.zero+"]").Replace(text)), allWords(3, 3))
			if text == "%" && len(a.Arcs) > 0 {
				t.Errorf("%v: %s has arcs: %v", s.ring, vanished, a)
			}
		}
		for i, v := range s.others {
			w := s.others[(i+1)%len(s.others)]
			for _, text := range []string{"[v]a [w]b c", "[v][w]a b", "[v](a b) + [w](a b)", "([v]a + [w]b)* c", "[v]1 [w]a b", "[v](a* [w](b c))", "[v](a b) [w](c a)", "[v]a + [w](b a)"} {
				e := mustParse(t, s.ring, strings.NewReplacer("[v]", "["+v+"]", "[w]", "["+w+"]").Replace(text))
				checkAutomaton(t, s.ring, 3, e, allWords(3, 4))
			}
		}
	}
}

func TestAutomataOfDerivatives(t *testing.T) {
	// The derivative has the series of the automaton behind the symbol.
	source := rand.New(rand.NewSource(7))
	for _, s := range ringCases() {
		for i := range 60 {
			e := random(t, source, s.ring, s.others, 1+i%16, api.MaxDepth)
			if !hasSeries(t, s.ring, 2, e) {
				continue
			}
			a := checkAutomaton(t, s.ring, 2, e, nil)
			d := mustDerive(t, s.ring, 2, e, 1)
			for _, word := range allWords(2, 3) {
				got := mustWeight(t, s.ring, 2, d, word)
				if want, err := weigh.Weight(a, append([]int{1}, word...)); err != api.OK || !semiring.Equal(got, want) {
					t.Errorf("%v: %s and %v: %v, but %v, %v", s.ring, shown(s.ring, e), word, got, want, err)
				}
			}
		}
	}
}

func TestAutomataOfLongWords(t *testing.T) {
	e := mustParse(t, rational(), "([1/2](a* b))* a*")
	a := checkAutomaton(t, rational(), 2, e, nil)
	var word []int
	for i := range api.MaxWord {
		word = append(word, 1+i*i%3%2)
		if got, err := weigh.Weight(a, word); err != api.OK || !semiring.Equal(got, mustWeight(t, rational(), 2, e, word)) {
			t.Fatalf("%v: %v, %v", word, got, err)
		}
	}
}

func TestManyHeavyArcs(t *testing.T) {
	// Each of 42 states is in front of the same 15 stars, each of which may be the next one, with weights that are long sums.
	r := api.Ring{Kind: api.Polynomial}
	w := read(t, r, "1/100*a+b+1/100")
	var pairs [][]api.ENode
	for i := range 21 {
		pairs = append(pairs, of(api.EProduct, of(api.EStar, scaled(w, letter(1+i))), of(api.EStar, scaled(w, letter(23-i)))))
	}
	e := nested(15, w, balanced(api.ESum, pairs))
	start := time.Now()
	if a := checkAutomaton(t, r, 23, e, [][]int{nil, {1}}); a.States != 43 || len(a.Arcs) != 43*42 {
		t.Errorf("%d states and %d arcs", a.States, len(a.Arcs))
	}
	if used := time.Since(start); used > 20*time.Second {
		t.Errorf("%d operations take %v", len(e), used)
	}
}
