package derivative_test

import (
	"math"
	"slices"
	"testing"

	"weighted/api"
	"weighted/automaton"
	"weighted/derivative"
)

// checkErrors checks that both functions answer with errors, and nothing else.
func checkErrors(t *testing.T, r api.Ring, symbols int, e []api.ENode, symbol int, ofDerive, ofAutomaton api.Errno) {
	t.Helper()
	if d, err := derivative.Derive(r, symbols, e, symbol); err != ofDerive || len(d) > 0 {
		t.Errorf("%v: Derive of %v by %d is %v, %v, not %v", r, e, symbol, d, err, ofDerive)
	}
	if a, err := derivative.Automaton(r, symbols, e); err != ofAutomaton || !automaton.Same(a, api.Auto{}) {
		t.Errorf("%v: Automaton of %v is %v, %v, not %v", r, e, a, err, ofAutomaton)
	}
}

func TestListsThatAreNoExpression(t *testing.T) {
	for _, s := range ringCases() {
		refuse := func(e ...api.ENode) {
			t.Helper()
			for _, symbol := range []int{1, 0, 4} {
				checkErrors(t, s.ring, 3, e, symbol, api.ErrForm, api.ErrForm)
			}
		}
		a, w := letter(1)[0], read(t, s.ring, s.others[0])
		wrong := api.Weight{Inf: true, Cost: 1}
		refuse()
		refuse(a, a)
		refuse(api.ENode{Op: api.EStar})
		refuse(api.ENode{Op: api.ESum}, a)
		refuse(api.ENode{Op: api.EProduct}, a)
		refuse(api.ENode{Op: api.EProduct}, a, a, a)
		refuse(api.ENode{Op: api.EScale, Weight: w})
		refuse(api.ENode{Op: api.EScale, Weight: wrong}, a)
		refuse(api.ENode{Op: api.EScale, Weight: w, Num: 1}, a)
		refuse(api.ENode{Op: api.ESymbol, Num: 1, Weight: wrong})
		refuse(api.ENode{Op: api.EOne, Num: 1})
		for _, op := range []int{0, -1, 8, math.MaxInt, math.MinInt} {
			refuse(api.ENode{Op: op})
			refuse(api.ENode{Op: op}, a)
			refuse(api.ENode{Op: api.ESum}, a, api.ENode{Op: op})
		}
		for _, symbol := range []int{0, -1, 4, 33, math.MaxInt, math.MinInt} {
			refuse(letter(symbol)...)
			refuse(of(api.EProduct, of(api.EZero), letter(symbol))...)
		}
		whole := mustParse(t, s.ring, "a* b + (c 1)*")
		for n := range whole {
			refuse(whole[:n]...)
			refuse(append(slices.Clone(whole), whole[n])...)
		}
		refuse(balanced(api.ESum, slices.Repeat([][]api.ENode{{a}}, 101))...)
		deep := letter(1)
		for range api.MaxDepth {
			deep = of(api.ESum, deep, letter(2))
		}
		refuse(deep...)
		refuse(slices.Repeat([]api.ENode{{Op: api.EStar}}, 100000)...)
	}
}

func TestRingsAndAlphabets(t *testing.T) {
	for _, r := range noRings() {
		for _, e := range [][]api.ENode{nil, letter(1), of(api.EOne), of(api.EStar, of(api.EOne)), letter(9)} {
			checkErrors(t, r, 3, e, 1, api.ErrForm, api.ErrForm)
			checkErrors(t, r, 3, e, 9, api.ErrForm, api.ErrForm)
		}
	}
	for _, symbols := range []int{0, -1, api.MaxSymbols + 1, math.MaxInt, math.MinInt} {
		for _, e := range [][]api.ENode{letter(1), of(api.EOne), of(api.EStar, of(api.EOne))} {
			for _, symbol := range []int{0, 1, symbols} {
				checkErrors(t, rational(), symbols, e, symbol, api.ErrForm, api.ErrForm)
			}
		}
	}
	// The greatest alphabet, and the smallest one.
	for _, s := range ringCases() {
		checkDerivatives(t, s.ring, api.MaxSymbols, of(api.ESum, letter(1), of(api.EProduct, letter(32), letter(31))), [][]int{nil, {1}, {31}, {32}})
		checkDerivatives(t, s.ring, 1, letter(1), allWords(1, 3))
		checkAutomaton(t, s.ring, api.MaxSymbols, of(api.ESum, letter(1), of(api.EProduct, letter(32), letter(31))), [][]int{nil, {1}, {31}, {32}, {32, 31}, {31, 32}})
		checkAutomaton(t, s.ring, 1, letter(1), allWords(1, 3))
	}
}

func TestExpressionsWithoutSeries(t *testing.T) {
	r := rational()
	for _, text := range []string{"1*", "a**", "(1 + a)*", "(a* a*)*", "0 1*", "1* 0", "[0](1*)", "a + 1*", "a (b 1*)", "(0 (1*))*", "([2]1)*", "([-1]1)* a", "(([1/2]1)*)*"} {
		for _, symbol := range []int{1, 3, 0, 4, -1, math.MaxInt} {
			checkErrors(t, r, 3, mustParse(t, r, text), symbol, api.ErrStar, api.ErrStar)
		}
	}
	for _, x := range []struct {
		ring api.Ring
		text string
	}{
		{api.Ring{Kind: api.Polynomial}, "([a+1]1)* b"},
		{api.Ring{Kind: api.Product, Parts: []int{api.Rational, api.Tropical}}, "a + ([1|7]1)*"},
		{api.Ring{Kind: api.Product, Parts: []int{api.Tropical, api.Rational}}, "a a**"},
	} {
		checkErrors(t, x.ring, 3, mustParse(t, x.ring, x.text), 9, api.ErrStar, api.ErrStar)
	}
	// Where there are too many symbols, too.
	many := balanced(api.ESum, slices.Repeat([][]api.ENode{letter(1)}, api.MaxStates))
	checkErrors(t, r, 1, of(api.ESum, many, of(api.EStar, of(api.EOne))), 2, api.ErrStar, api.ErrStar)
}

func TestSymbolsThatAreOutOfRange(t *testing.T) {
	for _, s := range ringCases() {
		for _, text := range []string{"a", "0", "1", "b* a", "[" + s.others[0] + "](a + b)"} {
			e := mustParse(t, s.ring, text)
			for _, symbol := range []int{0, -1, 3, 33, math.MaxInt, math.MinInt} {
				if d, err := derivative.Derive(s.ring, 2, e, symbol); err != api.ErrLabels || len(d) > 0 {
					t.Errorf("%v: Derive of %s by %d is %v, %v", s.ring, text, symbol, d, err)
				}
			}
			// A symbol of the alphabet that the expression does not have.
			if d := mustDerive(t, s.ring, 3, e, 3); len(d) != 1 || d[0].Op != api.EZero {
				t.Errorf("%v: Derive of %s by c is %s", s.ring, text, shown(s.ring, d))
			}
		}
	}
	// ErrLabels stands before ErrLimit.
	star := of(api.EStar, balanced(api.EProduct, slices.Repeat([][]api.ENode{letter(1)}, 90)))
	checkErrors(t, rational(), 1, star, 2, api.ErrLabels, api.ErrLimit)
	checkErrors(t, rational(), 1, star, 0, api.ErrLabels, api.ErrLimit)
	checkErrors(t, rational(), 1, star, 1, api.ErrLimit, api.ErrLimit)
}
