package weigh_test

import (
	"math/rand"
	"slices"
	"testing"

	"weighted/api"
	"weighted/rational"
	"weighted/semiring"
	"weighted/weigh"
)

// checkSums checks the weights of the states and of a word.
func checkSums(t *testing.T, a api.Auto, word []int, forward, backward []api.Weight, weight api.Weight) {
	t.Helper()
	if got, e := weigh.Forward(a, word); e != api.OK || !equalWeights(got, forward) {
		t.Errorf("%v, %v: Forward is %v, %v, not %v", a, word, got, e, forward)
	}
	if got, e := weigh.Backward(a, word); e != api.OK || !equalWeights(got, backward) {
		t.Errorf("%v, %v: Backward is %v, %v, not %v", a, word, got, e, backward)
	}
	if got, e := weigh.Weight(a, word); e != api.OK || !semiring.Equal(got, weight) {
		t.Errorf("%v, %v: Weight is %v, %v, not %v", a, word, got, e, weight)
	}
}

// checkWalks checks the sums against those of all paths, one by one.
func checkWalks(t *testing.T, a api.Auto, word []int) {
	t.Helper()
	zero := blank(a.Ring, a.Symbols, a.States)
	forward, backward := zero.Initial, zero.Final
	weight := semiring.Zero(a.Ring)
	for _, w := range walks(a, word) {
		in := semiring.Times(a.Ring, a.Initial[w.start], w.weight)
		plus(a.Ring, &forward[w.end], in)
		plus(a.Ring, &backward[w.start], semiring.Times(a.Ring, w.weight, a.Final[w.end]))
		plus(a.Ring, &weight, semiring.Times(a.Ring, in, a.Final[w.end]))
	}
	checkSums(t, a, word, forward, backward, weight)
}

// mustForward returns Forward of an automaton and a word without errors.
func mustForward(t *testing.T, a api.Auto, word []int) []api.Weight {
	t.Helper()
	got, e := weigh.Forward(a, word)
	if e != api.OK {
		t.Fatalf("Forward: %v", e)
	}
	return got
}

// mustBackward returns Backward of an automaton and a word without errors.
func mustBackward(t *testing.T, a api.Auto, word []int) []api.Weight {
	t.Helper()
	got, e := weigh.Backward(a, word)
	if e != api.OK {
		t.Fatalf("Backward: %v", e)
	}
	return got
}

// mustWeight returns Weight of an automaton and a word without errors.
func mustWeight(t *testing.T, a api.Auto, word []int) api.Weight {
	t.Helper()
	got, e := weigh.Weight(a, word)
	if e != api.OK {
		t.Fatalf("Weight: %v", e)
	}
	return got
}

func TestExample(t *testing.T) {
	a := model(t, numbers(), 2, "1", "1", "0 1 0 1/2", "0 2 0 1/3")
	sixth := readAll(t, numbers(), "1/6")
	checkSums(t, a, []int{1, 2}, sixth, sixth, sixth[0])
	checkPaths(t, a, []int{1, 2}, 1, number(1).Q, []api.Path{{Start: 0, Arcs: []int{0, 1}, Weight: sixth[0]}})
}

func TestSums(t *testing.T) {
	viterbi, sets, polynomials := api.Ring{Kind: api.Viterbi}, api.Ring{Kind: api.Sets}, api.Ring{Kind: api.Polynomial}
	sum := model(t, numbers(), 2, "2 3 0", "0 5 -1", "0 1 1 1/2", "0 1 2 7", "1 2 2 -1", "1 1 1 2", "2 2 0 1/3")
	cheap := model(t, costs(), 2, "1 4", "inf 2", "0 1 1 5", "0 1 0 3", "1 2 1 inf", "1 1 1 0")
	likely := model(t, viterbi, 1, "1 1/2", "1/2 1", "0 1 0 1/2", "0 1 1 1/3", "1 1 1 1/2")
	marked := model(t, sets, 1, "00000000000000ff 0000000000000f00", "ffffffffffffffff 000000000000ffff", "0 1 0 000000000000000f", "0 1 1 00000000000000f0", "1 1 1 0000000000000fff")
	named := model(t, polynomials, 1, "a 1", "1 b", "0 1 0 a", "0 1 1 b+1", "1 1 1 -a")
	paired := model(t, product(api.Rational, api.Tropical), 1, "1|0 2|3", "1|1 1|0", "0 1 0 1/2|4", "0 1 1 -1/2|1", "1 1 1 3|inf")
	for _, x := range []struct {
		a                         api.Auto
		word                      []int
		forward, backward, weight string
	}{
		{sum, nil, "2 3 0", "0 5 -1", "15"},
		{sum, []int{1}, "0 7 14", "-9/2 10 0", "21"},
		{sum, []int{2}, "0 0 -3", "0 1 0", "3"},
		{sum, []int{1, 1}, "0 14 0", "5 20 0", "70"},
		{sum, []int{1, 2}, "14/3 0 -7", "1/2 2 0", "7"},
		{sum, []int{2, 1}, "0 0 0", "0 0 -3/2", "0"},
		{sum, []int{2, 2}, "-1 0 0", "0 0 0", "0"},
		{sum, []int{1, 2, 1}, "0 7/3 98/3", "-21/2 0 0", "-21"},
		{cheap, nil, "1 4", "inf 2", "6"},
		{cheap, []int{1}, "4 4", "7 2", "6"},
		{cheap, []int{2}, "inf inf", "inf inf", "inf"},
		{cheap, []int{1, 1}, "7 4", "7 2", "6"},
		{cheap, []int{1, 2}, "inf inf", "inf inf", "inf"},
		{likely, nil, "1 1/2", "1/2 1", "1/2"},
		{likely, []int{1}, "1/2 1/3", "1/3 1/2", "1/3"},
		{likely, []int{1, 1}, "1/4 1/6", "1/6 1/4", "1/6"},
		{marked, nil, "00000000000000ff 0000000000000f00", "ffffffffffffffff 000000000000ffff", "0000000000000fff"},
		{marked, []int{1}, "000000000000000f 0000000000000ff0", "00000000000000ff 0000000000000fff", "0000000000000fff"},
		{marked, []int{1, 1}, "000000000000000f 0000000000000ff0", "00000000000000ff 0000000000000fff", "0000000000000fff"},
		{named, nil, "a 1", "1 b", "a+b"},
		{named, []int{1}, "a^2 a*b", "a+b^2+b -a*b", "a^2+a*b^2"},
		{paired, nil, "1|0 2|3", "1|1 1|0", "3|1"},
		{paired, []int{1}, "1/2|4 11/2|1", "0|1 3|inf", "6|1"},
		{paired, []int{1, 1}, "1/4|8 65/4|5", "-3/2|5 9|inf", "33/2|5"},
	} {
		r := x.a.Ring
		checkSums(t, x.a, x.word, readAll(t, r, x.forward), readAll(t, r, x.backward), read(t, r, x.weight))
		checkWalks(t, x.a, x.word)
	}
}

func TestSumsOfRandomAutomata(t *testing.T) {
	source := rand.New(rand.NewSource(1))
	for _, s := range ringCases() {
		for range 25 {
			a := random(t, source, s, 1+source.Intn(3), 1+source.Intn(4), source.Intn(12))
			for _, word := range allWords(a.Symbols, 3) {
				checkWalks(t, a, word)
			}
		}
	}
}

func TestSumsOfTheEmptyWord(t *testing.T) {
	source := rand.New(rand.NewSource(2))
	for _, s := range ringCases() {
		for states := range 6 {
			a := random(t, source, s, 2, states+1, 5)
			for _, word := range [][]int{nil, {}} {
				checkSums(t, a, word, a.Initial, a.Final, scalar(s.ring, a.Initial, a.Final))
			}
		}
	}
}

func TestSumsWithoutPaths(t *testing.T) {
	source := rand.New(rand.NewSource(3))
	for _, s := range ringCases() {
		zero, one := semiring.Zero(s.ring), semiring.One(s.ring)
		for _, word := range [][]int{nil, {1}, {2, 1}, slices.Repeat([]int{2}, api.MaxWord)} {
			checkSums(t, api.Auto{Ring: s.ring, Symbols: 2}, word, nil, nil, zero)
			checkSums(t, blank(s.ring, 2, 3), word, []api.Weight{zero, zero, zero}, []api.Weight{zero, zero, zero}, zero)
		}
		// Without arcs, without an arc with the label, and with the last symbol missing.
		a := blank(s.ring, 3, 1)
		a.Initial[0], a.Final[0] = one, one
		none := []api.Weight{zero}
		checkSums(t, a, []int{1}, none, none, zero)
		a.Arcs = []api.Arc{{Label: 1, Weight: one}, {Label: 2, Weight: one}}
		checkSums(t, a, []int{3}, none, none, zero)
		checkSums(t, a, []int{1, 2, 3}, none, none, zero)
		checkSums(t, a, []int{3, 2, 1}, none, none, zero)
		checkSums(t, a, []int{1, 2, 1}, []api.Weight{one}, []api.Weight{one}, one)
		// Without initial, and without final weights.
		for range 10 {
			b := random(t, source, s, 2, 3, 10)
			b.Initial = blank(s.ring, 2, 3).Initial
			if got := mustForward(t, b, []int{1, 2}); !equalWeights(got, b.Initial) {
				t.Errorf("%v: Forward without initial weights: %v", s.ring, got)
			}
			checkWalks(t, b, []int{1, 2})
			b.Initial, b.Final = b.Final, b.Initial
			if got := mustBackward(t, b, []int{1, 2}); !equalWeights(got, b.Final) {
				t.Errorf("%v: Backward without final weights: %v", s.ring, got)
			}
			checkWalks(t, b, []int{1, 2})
		}
	}
}

func TestSumsOfArcsWithTheSumZero(t *testing.T) {
	for _, s := range ringCases() {
		zero, one := semiring.Zero(s.ring), semiring.One(s.ring)
		a := blank(s.ring, 2, 2)
		a.Initial[0], a.Final[1] = one, one
		a.Arcs = vanishing(t, s, 0, 1, 1)
		none := []api.Weight{zero, zero}
		checkSums(t, a, []int{1}, none, none, zero)
		a.Arcs = append(a.Arcs, api.Arc{From: 0, Label: 1, To: 1, Weight: one})
		checkSums(t, a, []int{1}, []api.Weight{zero, one}, []api.Weight{one, zero}, one)
		// Arcs with the empty label and the sum Zero are as if they were not there.
		for from := range 2 {
			for to := range 2 {
				b := a
				b.Arcs = slices.Concat(vanishing(t, s, from, 0, to), a.Arcs, []api.Arc{{From: to, Label: 0, To: from, Weight: zero}})
				checkSums(t, b, []int{1}, []api.Weight{zero, one}, []api.Weight{one, zero}, one)
				checkSums(t, b, nil, a.Initial, a.Final, zero)
			}
		}
	}
}

func TestSumsOfEqualArcs(t *testing.T) {
	arcs := []string{"0 1 0 1/2", "0 1 0 1/3", "0 1 0 1/6", "0 1 0 2"}
	for range arcs {
		a := model(t, numbers(), 1, "1", "1", arcs...)
		checkSums(t, a, []int{1, 1}, []api.Weight{number(9)}, []api.Weight{number(9)}, number(9))
		arcs = append(arcs[1:], arcs[0])
	}
	a := model(t, costs(), 1, "0", "0", "0 1 0 5", "0 1 0 3", "0 1 0 inf", "0 1 0 4")
	six := readAll(t, costs(), "6")
	checkSums(t, a, []int{1, 1}, six, six, six[0])
}

func TestSumsThatVanish(t *testing.T) {
	// The paths to state 1 have the sum 0, so that nothing comes from there, but from state 2.
	a := model(t, numbers(), 1, "1 0 0 0", "0 0 0 1", "0 1 1 1/2", "0 1 2 1", "1 1 3 5", "2 1 3 7", "0 1 0 1", "2 1 1 -1/2")
	checkWalks(t, a, []int{1, 1})
	checkWalks(t, a, []int{1, 1, 1})
	if got := mustForward(t, a, []int{1, 1}); !equalWeights(got, readAll(t, numbers(), "1 0 1 19/2")) {
		t.Errorf("Forward: %v", got)
	}
	if got := mustWeight(t, a, []int{1, 1, 1}); !semiring.Equal(got, number(7)) {
		t.Errorf("Weight: %v", got)
	}
}

func TestSumsOfLongWords(t *testing.T) {
	source := rand.New(rand.NewSource(4))
	for _, s := range ringCases() {
		for _, text := range s.texts {
			w := read(t, s.ring, text)
			a := blank(s.ring, 1, 1)
			a.Initial[0], a.Final[0] = semiring.One(s.ring), semiring.One(s.ring)
			a.Arcs = []api.Arc{{Label: 1, Weight: w}}
			for _, length := range []int{5, api.MaxWord - 1, api.MaxWord} {
				want := []api.Weight{power(s.ring, w, length)}
				checkSums(t, a, slices.Repeat([]int{1}, length), want, want, want[0])
			}
		}
		a := random(t, source, s, 2, 3, 10)
		checkConsequences(t, a, randomWord(source, 2, 40), randomWord(source, 2, 30))
	}
	// 1, 1, 2, 3, 5, 8, ..: each number is the sum of the two before it.
	a := model(t, numbers(), 1, "1 0", "1 0", "0 1 0 1", "0 1 1 1", "1 1 0 1")
	var last, next api.Rat
	next = number(1).Q
	for length := range api.MaxWord + 1 {
		if got := mustWeight(t, a, slices.Repeat([]int{1}, length)); !equalNumbers(got.Q, next) {
			t.Errorf("%d symbols: %v, not %v", length, got, next)
		}
		last, next = next, rational.Add(last, next)
	}
}

func TestSumsOfGreatCosts(t *testing.T) {
	// 256 times 2^32 is MaxCost itself. One more is Zero.
	a := model(t, costs(), 1, "0", "0", "0 1 0 4294967296")
	word := slices.Repeat([]int{1}, api.MaxWord)
	most, inf := readAll(t, costs(), "1099511627776"), readAll(t, costs(), "inf")
	checkSums(t, a, word, most, most, most[0])
	a.Final[0].Cost = 1
	checkSums(t, a, word, most, inf, inf[0])
	a.Initial, a.Final = a.Final, a.Initial
	checkSums(t, a, word, inf, most, inf[0])
}

func TestSumsOfAllArcsThatThereMayBe(t *testing.T) {
	source := rand.New(rand.NewSource(5))
	a := blank(costs(), api.MaxSymbols, api.MaxStates)
	for i := range api.MaxStates {
		a.Initial[i], a.Final[i] = api.Weight{Cost: i}, api.Weight{Cost: 2 * i}
	}
	// With any symbol s, arcs of the cost 1 lead from each state to the state s times as far, so that there is one path from each state.
	for from := range api.MaxStates {
		for label := 1; label <= api.MaxSymbols; label++ {
			a.Arcs = append(a.Arcs, api.Arc{From: from, Label: label, To: from * label % api.MaxStates, Weight: api.Weight{Cost: 1}})
		}
	}
	word := randomWord(source, api.MaxSymbols/2, api.MaxWord)
	for i := range word {
		word[i] = 2*word[i] - 1
	}
	end := make([]int, api.MaxStates)
	forward, backward := make([]api.Weight, api.MaxStates), make([]api.Weight, api.MaxStates)
	for i := range end {
		end[i] = i
		for _, symbol := range word {
			end[i] = end[i] * symbol % api.MaxStates
		}
		forward[end[i]] = api.Weight{Cost: i + api.MaxWord}
		backward[i] = api.Weight{Cost: 2*end[i] + api.MaxWord}
	}
	source.Shuffle(len(a.Arcs), func(i, k int) { a.Arcs[i], a.Arcs[k] = a.Arcs[k], a.Arcs[i] })
	checkSums(t, a, word, forward, backward, api.Weight{Cost: api.MaxWord})
}

// checkConsequences checks what the chapter says follows, for two words.
func checkConsequences(t *testing.T, a api.Auto, v, w []int) {
	t.Helper()
	word := append(slices.Clone(v), w...)
	forward, backward, weight := mustForward(t, a, word), mustBackward(t, a, word), mustWeight(t, a, word)
	for i, got := range []api.Weight{scalar(a.Ring, forward, a.Final), scalar(a.Ring, a.Initial, backward), scalar(a.Ring, mustForward(t, a, v), mustBackward(t, a, w))} {
		if !semiring.Equal(got, weight) {
			t.Errorf("%v, %v: sum %d is %v, not %v", a, word, i, got, weight)
		}
	}
	later, sooner := a, a
	later.Initial, sooner.Final = mustForward(t, a, v), mustBackward(t, a, w)
	if got := mustForward(t, later, w); !equalWeights(got, forward) {
		t.Errorf("%v, %v: Forward in two parts is %v, not %v", a, word, got, forward)
	}
	if got := mustBackward(t, sooner, v); !equalWeights(got, backward) {
		t.Errorf("%v, %v: Backward in two parts is %v, not %v", a, word, got, backward)
	}
}

func TestConsequencesForSums(t *testing.T) {
	source := rand.New(rand.NewSource(6))
	for _, s := range ringCases() {
		for range 40 {
			a := random(t, source, s, 1+source.Intn(3), 1+source.Intn(4), source.Intn(20))
			checkConsequences(t, a, randomWord(source, a.Symbols, source.Intn(6)), randomWord(source, a.Symbols, source.Intn(6)))
		}
	}
}
