package position_test

import (
	"math"
	"slices"
	"testing"

	"weighted/api"
	"weighted/automaton"
	"weighted/position"
)

// checkErrors checks that all functions answer with the same error, and nothing else.
func checkErrors(t *testing.T, r api.Ring, symbols int, e []api.ENode, want api.Errno) {
	t.Helper()
	if first, err := position.First(r, symbols, e); err != want || len(first) > 0 {
		t.Errorf("%v: First of %v over %d symbols is %v, %v, not %v", r, e, symbols, first, err, want)
	}
	if last, err := position.Last(r, symbols, e); err != want || len(last) > 0 {
		t.Errorf("%v: Last of %v over %d symbols is %v, %v, not %v", r, e, symbols, last, err, want)
	}
	if a, err := position.Automaton(r, symbols, e); err != want || !automaton.Same(a, api.Auto{}) {
		t.Errorf("%v: Automaton of %v over %d symbols is %v, %v, not %v", r, e, symbols, a, err, want)
	}
}

func TestListsThatAreNoExpression(t *testing.T) {
	for _, s := range ringCases() {
		refuse := func(e ...api.ENode) {
			t.Helper()
			checkErrors(t, s.ring, 3, e, api.ErrForm)
		}
		a, w := api.ENode{Op: api.ESymbol, Num: 1}, parse(t, s.ring, "["+s.weights[0]+"]a")[0].Weight
		wrong := api.Weight{Inf: true, Cost: 1}
		refuse()
		refuse(a, a)
		refuse(api.ENode{Op: api.EStar})
		refuse(api.ENode{Op: api.ESum}, a)
		refuse(api.ENode{Op: api.EProduct}, a)
		refuse(api.ENode{Op: api.EProduct}, a, a, a)
		refuse(api.ENode{Op: api.EScale, Weight: w})
		refuse(api.ENode{Op: api.EScale, Weight: wrong}, a)
		refuse(api.ENode{Op: api.EScale, Weight: w, Num: 1}, a)
		refuse(api.ENode{Op: api.ESymbol, Num: 1, Weight: wrong})
		refuse(api.ENode{Op: api.EOne, Num: 1})
		for _, op := range []int{0, -1, 8, math.MaxInt, math.MinInt} {
			refuse(api.ENode{Op: op})
			refuse(api.ENode{Op: op}, a)
			refuse(api.ENode{Op: api.ESum}, a, api.ENode{Op: op})
		}
		for _, symbol := range []int{0, -1, 4, 33, math.MaxInt, math.MinInt} {
			refuse(api.ENode{Op: api.ESymbol, Num: symbol})
			refuse(api.ENode{Op: api.EProduct}, api.ENode{Op: api.EZero}, api.ENode{Op: api.ESymbol, Num: symbol})
		}
		whole := parse(t, s.ring, "a* b + (c 1)*")
		for n := range whole {
			refuse(whole[:n]...)
			refuse(append(slices.Clone(whole), whole[n])...)
		}
		// 201 operations, and 41 levels.
		refuse(append(slices.Repeat([]api.ENode{{Op: api.ESum}}, 100), slices.Repeat([]api.ENode{a}, 101)...)...)
		refuse(append(slices.Repeat([]api.ENode{{Op: api.ESum}}, api.MaxDepth), slices.Repeat([]api.ENode{a}, api.MaxDepth+1)...)...)
		refuse(slices.Repeat([]api.ENode{{Op: api.EStar}}, 100000)...)
	}
}

func TestRingsAndAlphabets(t *testing.T) {
	texts := []string{"a", "1", "1*", "a a*", balanced(" + ", symbolsFrom(api.MaxStates))}
	for _, r := range []api.Ring{
		{}, {Kind: -1}, {Kind: 7}, tuple(), tuple(api.Rational), tuple(1, 2, 3, 4), tuple(api.Rational, api.Product), tuple(api.Rational, 0), {Kind: api.Rational, Parts: []int{api.Rational}},
	} {
		checkErrors(t, r, 32, nil, api.ErrForm)
		for _, text := range texts {
			checkErrors(t, r, 32, parse(t, rational(), text), api.ErrForm)
		}
	}
	for _, s := range ringCases() {
		for _, symbols := range []int{0, -1, api.MaxSymbols + 1, math.MaxInt, math.MinInt} {
			for _, text := range texts {
				checkErrors(t, s.ring, symbols, parse(t, s.ring, text), api.ErrForm)
			}
		}
		// A weight of another ring.
		other := parse(t, tuple(api.Sets, api.Viterbi), "[0000000000000001|1/2]a")
		checkErrors(t, s.ring, 1, other, api.ErrForm)
		// The greatest alphabet, and the smallest one, which a symbol need not have.
		checkDefinition(t, s.ring, api.MaxSymbols, parse(t, s.ring, "a + F E + A*"), [][]int{nil, {1}, {32}, {31}, {27}, {32, 31}, {31, 32}, {27, 27}})
		checkDefinition(t, s.ring, 1, parse(t, s.ring, "a a*"), allWords(1, 3))
		checkErrors(t, s.ring, 1, parse(t, s.ring, "a b*"), api.ErrForm)
	}
}

func TestExpressionsWithoutSeries(t *testing.T) {
	for _, text := range []string{"1*", "a**", "(1 + a)*", "(a* a*)*", "0 1*", "1* 0", "[0](1*)", "a + 1*", "a (b 1*)", "(0 (1*))*", "([2]1)*", "([-1]1)* a", "(([1/2]1)*)*"} {
		checkErrors(t, rational(), 3, parse(t, rational(), text), api.ErrStar)
	}
	for _, x := range []struct {
		ring api.Ring
		text string
	}{
		{api.Ring{Kind: api.Polynomial}, "([a+1]1)* b"},
		{tuple(api.Rational, api.Tropical), "a + ([1|7]1)*"},
		{tuple(api.Tropical, api.Rational), "a a**"},
		{tuple(api.Viterbi, api.Sets, api.Polynomial), "(a + [0|0000000000000000|b-1]1)*"},
	} {
		checkErrors(t, x.ring, 3, parse(t, x.ring, x.text), api.ErrStar)
	}
	// Where there are too many positions or arcs, too.
	for _, text := range []string{balanced(" + ", symbolsFrom(api.MaxStates)) + " + 1*", "([1/2]1 + " + balanced(" + ", symbolsFrom(60)) + ")* a**"} {
		checkErrors(t, rational(), 32, parse(t, rational(), text), api.ErrStar)
	}
	// Rings in which all stars exist.
	for _, s := range ringCases() {
		if s.ring.Kind == api.Tropical || s.ring.Kind == api.Viterbi || s.ring.Kind == api.Sets {
			checkDefinition(t, s.ring, 3, parse(t, s.ring, "(a** (1* + b)*)* c*"), allWords(3, 3))
		}
	}
}

func TestNumbersOfPositions(t *testing.T) {
	words := [][]int{nil, {1}, {2}, {1, 1}, {1, 2}, {2, 1, 2}, {32}, {31, 32}, {32, 1, 1, 32}}
	for _, s := range ringCases() {
		for _, n := range []int{1, 2, api.MaxStates - 1, api.MaxStates, 100} {
			for _, text := range []string{balanced(" + ", symbolsFrom(n)), balanced(" ", symbolsFrom(n)), balanced(" ", slices.Repeat([]string{"b"}, n))} {
				e := parse(t, s.ring, text)
				if n >= api.MaxStates {
					checkLimit(t, s.ring, 32, e)
				} else if a := mustAutomaton(t, s.ring, 32, e, append(slices.Clone(words), positionsOf(e))); a.States != n+1 || len(a.Arcs) != n {
					t.Errorf("%v: %d positions: %d states and %d arcs", s.ring, n, a.States, len(a.Arcs))
				}
			}
		}
		// As many without arcs.
		none := slices.Repeat([]string{"[" + s.zero + "]a"}, 66)
		if a := mustAutomaton(t, s.ring, 1, parse(t, s.ring, balanced(" + ", none[:api.MaxStates-1])), nil); a.States != api.MaxStates || len(a.Arcs) > 0 {
			t.Errorf("%v: %d states and %d arcs", s.ring, a.States, len(a.Arcs))
		}
		checkLimit(t, s.ring, 1, parse(t, s.ring, balanced(" + ", none[:api.MaxStates])))
	}
}

func TestNumbersOfArcs(t *testing.T) {
	for _, s := range ringCases() {
		// The star of 44 symbols has 45 * 44 arcs, the symbol behind it one from each of the 45 states, each further one another arc, and the star at the end 4 * 4 and the 4 that lead to it.
		star := balanced(" + ", symbolsFrom(44)) + "*"
		none := " + " + balanced(" + ", slices.Repeat([]string{"[" + s.zero + "]a"}, 10))
		for n, want := range map[int]int{3: api.MaxArcs - 1, 4: api.MaxArcs, 5: api.MaxArcs + 1} {
			text := star + " " + balanced(" ", symbolsFrom(n)) + " (a + b + c + d)*"
			for _, e := range [][]api.ENode{parse(t, s.ring, text), parse(t, s.ring, text+none)} {
				checkArcs(t, s.ring, e, want)
			}
		}
		// Positions where no words begin lead to others, but none leads to them.
		for n, want := range map[int]int{31: 64 * 31, 32: api.MaxArcs, 33: 64 * 33} {
			list := append(symbolsFrom(n), slices.Repeat([]string{"[" + s.zero + "]b"}, api.MaxStates-1-n)...)
			checkArcs(t, s.ring, parse(t, s.ring, balanced(" + ", list)+"*"), want)
		}
		checkArcs(t, s.ring, parse(t, s.ring, balanced(" + ", symbolsFrom(44))+"*"), 44*45)
		checkArcs(t, s.ring, parse(t, s.ring, balanced(" + ", symbolsFrom(45))+"*"), 45*46)
		checkArcs(t, s.ring, parse(t, s.ring, balanced(" + ", symbolsFrom(63))+"*"), 63*64)
	}
}

// checkArcs checks the number of arcs, which may be too large.
func checkArcs(t *testing.T, r api.Ring, e []api.ENode, want int) {
	t.Helper()
	if want > api.MaxArcs {
		checkLimit(t, r, 32, e)
		return
	}
	if a := mustAutomaton(t, r, 32, e, [][]int{nil, {1}, {2, 1}, {1, 1, 1}}); len(a.Arcs) != want {
		t.Errorf("%v: %s has %d arcs, not %d", r, shown(r, e), len(a.Arcs), want)
	}
}

func TestArcsThatAreLeftOutDoNotCount(t *testing.T) {
	// Each of 25 positions has an arc to each of 25 others, but if the last factor is 1, what follows within the product and what follows around it have the sum 0.
	r := rational()
	list := balanced(" + ", symbolsFrom(25))
	for factor, want := range map[string]int{"1": 50 + 3*25*25, "1/2": 50 + 4*25*25} {
		checkArcs(t, r, parse(t, r, "(("+list+" + [-1/2]1) ("+list+" + 1) + ["+factor+"]1)*"), want)
	}
}
