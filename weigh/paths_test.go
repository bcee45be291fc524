package weigh_test

import (
	"math/rand"
	"slices"
	"testing"

	"weighted/api"
	"weighted/automaton"
	"weighted/rational"
	"weighted/semiring"
	"weighted/weigh"
)

// checkPaths checks the number of the paths and the first most of them.
func checkPaths(t *testing.T, a api.Auto, word []int, most int, count api.Rat, want []api.Path) {
	t.Helper()
	got, n, e := weigh.Paths(a, word, most)
	if e != api.OK || !equalNumbers(n, count) || !rational.Valid(n) || !equalPaths(got, want) {
		t.Errorf("%v, %v: the first %d paths are %v of %v, %v, not %v of %v", a, word, most, got, n, e, want, count)
	}
}

// accepting returns all accepting paths in their order, found among all paths of the normal form.
func accepting(t *testing.T, a api.Auto, word []int) []api.Path {
	t.Helper()
	n, e := automaton.Normal(a)
	if e != api.OK {
		t.Fatalf("no normal form: %v", e)
	}
	var out []api.Path
	for _, w := range walks(n, word) {
		in, end := n.Initial[w.start], n.Final[w.end]
		if !isZero(a.Ring, in) && !isZero(a.Ring, end) {
			weight := semiring.Times(a.Ring, semiring.Times(a.Ring, in, w.weight), end)
			out = append(out, api.Path{Start: w.start, Arcs: w.arcs, Weight: weight})
		}
	}
	return out
}

// checkAllPaths checks Paths with different numbers of paths that are asked for.
func checkAllPaths(t *testing.T, a api.Auto, word []int) {
	t.Helper()
	all := accepting(t, a, word)
	n := len(all)
	for _, most := range []int{0, 1, 2, n - 1, n, n + 1, api.MaxList - 1, api.MaxList} {
		if most >= 0 && most <= api.MaxList {
			checkPaths(t, a, word, most, number(n).Q, all[:min(most, n)])
		}
	}
	if n <= api.MaxList {
		checkTotal(t, a, word)
	}
}

// checkTotal checks that the weight of a word is the sum of those of its paths, of which there are at most MaxList.
func checkTotal(t *testing.T, a api.Auto, word []int) {
	t.Helper()
	all, _, e := weigh.Paths(a, word, api.MaxList)
	sum := semiring.Zero(a.Ring)
	for _, p := range all {
		plus(a.Ring, &sum, p.Weight)
	}
	if got := mustWeight(t, a, word); e != api.OK || !semiring.Equal(got, sum) {
		t.Errorf("%v, %v: the weight is %v, and that of the paths %v, %v", a, word, got, sum, e)
	}
}

// path is a path as a test writes it.
type path struct {
	start  int
	arcs   []int
	weight string
}

func TestPaths(t *testing.T) {
	two := []string{"0 1 0 1", "0 1 1 2", "1 1 0 3", "1 1 1 5"}
	for _, x := range []struct {
		a    api.Auto
		word []int
		want []path
	}{
		// All paths of two states, by start and then by arcs, whatever their weights and ends.
		{model(t, numbers(), 1, "7 11", "13 17", two...), nil, []path{{0, nil, "91"}, {1, nil, "187"}}},
		{model(t, numbers(), 1, "7 11", "13 17", two...), []int{1}, []path{{0, []int{0}, "91"}, {0, []int{1}, "238"}, {1, []int{2}, "429"}, {1, []int{3}, "935"}}},
		{model(t, numbers(), 1, "7 11", "13 17", two...), []int{1, 1}, []path{
			{0, []int{0, 0}, "91"}, {0, []int{0, 1}, "238"}, {0, []int{1, 2}, "546"}, {0, []int{1, 3}, "1190"},
			{1, []int{2, 0}, "429"}, {1, []int{2, 1}, "1122"}, {1, []int{3, 2}, "2145"}, {1, []int{3, 3}, "4675"}}},
		// A better start and better arcs do not come first.
		{model(t, costs(), 1, "9 0", "0 0", "0 1 0 9", "0 1 1 0", "1 1 0 9", "1 1 1 0"), []int{1}, []path{{0, []int{0}, "18"}, {0, []int{1}, "9"}, {1, []int{2}, "9"}, {1, []int{3}, "0"}}},
		// Initial and Final weights Zero.
		{model(t, numbers(), 1, "0 11", "13 17", two...), []int{1}, []path{{1, []int{2}, "429"}, {1, []int{3}, "935"}}},
		{model(t, numbers(), 1, "7 11", "0 17", two...), []int{1}, []path{{0, []int{1}, "238"}, {1, []int{3}, "935"}}},
		{model(t, numbers(), 1, "0 11", "13 0", two...), nil, nil},
		{model(t, numbers(), 1, "0 0", "13 17", two...), []int{1}, nil},
		{model(t, numbers(), 1, "7 11", "0 0", two...), []int{1}, nil},
		// The numbers are those of the normal form, in which arcs have another order, are one or are left out.
		{model(t, numbers(), 2, "1 0", "0 1", "1 2 1 7", "0 2 1 3", "0 1 0 0", "0 2 1 4", "0 1 1 5", "0 2 0 1", "0 2 0 -1"), []int{2, 2}, []path{{0, []int{1, 2}, "49"}}},
		{model(t, numbers(), 2, "1 0", "0 1", "1 2 1 7", "0 2 1 3", "0 1 0 0", "0 2 1 4", "0 1 1 5", "0 2 0 1", "0 2 0 -1"), []int{1, 2}, []path{{0, []int{0, 2}, "35"}}},
		{model(t, numbers(), 1, "1", "1", "0 0 0 2", "0 1 0 5", "0 0 0 -2", "0 0 0 0", "0 1 0 1"), []int{1, 1, 1}, []path{{0, []int{0, 0, 0}, "216"}}},
		{model(t, numbers(), 1, "1 0", "0 1", "0 1 1 1/2", "0 1 1 -1/2"), []int{1}, nil},
		// Weights of paths that add up to 0.
		{model(t, numbers(), 1, "1 0 0 0", "0 0 0 1", "0 1 1 1/2", "0 1 2 1", "1 1 3 5", "2 1 3 7", "0 1 0 1", "2 1 1 -1/2"), []int{1, 1, 1}, []path{{0, []int{0, 1, 3}, "5/2"}, {0, []int{0, 2, 5}, "7"}, {0, []int{2, 4, 3}, "-5/2"}}},
		{model(t, numbers(), 1, "1 -1", "1 1", "0 1 0 1", "1 1 1 1"), []int{1}, []path{{0, []int{0}, "1"}, {1, []int{1}, "-1"}}},
		// Paths that end nowhere, in front of and behind those that do not.
		{model(t, numbers(), 2, "1 1 1", "0 1 0", "0 1 0 1", "0 1 2 1", "0 2 1 1", "1 1 0 1", "2 1 2 1", "2 2 2 1"), []int{1, 1, 2}, []path{{0, []int{0, 0, 2}, "1"}, {1, []int{3, 0, 2}, "1"}}},
	} {
		want := []api.Path{}
		for _, p := range x.want {
			want = append(want, api.Path{Start: p.start, Arcs: p.arcs, Weight: read(t, x.a.Ring, p.weight)})
		}
		checkPaths(t, x.a, x.word, api.MaxList, number(len(want)).Q, want)
		checkAllPaths(t, x.a, x.word)
	}
}

func TestPathsOfWeightZero(t *testing.T) {
	for _, x := range []struct {
		ring           api.Ring
		initial, final string
		arc            string
		weights        []string
	}{
		{costs(), "1099511627776", "1", "0", []string{"inf", "inf"}},
		{costs(), "0", "0", "549755813889", []string{"0", "549755813889", "inf", "inf"}},
		{api.Ring{Kind: api.Sets}, "000000000000000f", "00000000000000f0", "ffffffffffffffff", []string{"0000000000000000", "0000000000000000"}},
		{api.Ring{Kind: api.Sets}, "00000000000000ff", "00000000000000ff", "ff00000000000000", []string{"00000000000000ff", "0000000000000000"}},
		{api.Ring{Kind: api.Polynomial}, "a", "1", "b^3", []string{"a", "a*b^3", "0"}},
		{api.Ring{Kind: api.Polynomial}, "a^3", "c^3", "1", []string{"0", "0"}},
		{product(api.Rational, api.Tropical), "1|inf", "0|0", "1|0", []string{"0|inf", "0|inf"}},
		{product(api.Rational, api.Rational), "1|0", "1|1", "0|1", []string{"1|0", "0|0"}},
	} {
		a := model(t, x.ring, 1, x.initial, x.final, "0 1 0 "+x.arc)
		for length, weight := range x.weights {
			word, arcs := slices.Repeat([]int{1}, length), make([]int, length)
			checkPaths(t, a, word, 1, number(1).Q, []api.Path{{Start: 0, Arcs: arcs, Weight: read(t, x.ring, weight)}})
			checkPaths(t, a, word, 0, number(1).Q, nil)
			checkAllPaths(t, a, word)
		}
	}
	// Such a path comes in its turn among others.
	a := model(t, api.Ring{Kind: api.Sets}, 1, "000000000000000f 00000000000000ff", "00000000000000f0 00000000000000ff", "0 1 0 ffffffffffffffff", "0 1 1 ffffffffffffffff", "1 1 0 ffffffffffffffff")
	var want []api.Path
	for i, p := range []path{{0, nil, "0000000000000000"}, {0, nil, "000000000000000f"}, {1, nil, "00000000000000f0"}} {
		want = append(want, api.Path{Start: p.start, Arcs: []int{i}, Weight: read(t, a.Ring, p.weight)})
	}
	for most := range 5 {
		checkPaths(t, a, []int{1}, most, number(3).Q, want[:min(most, 3)])
	}
}

func TestPathsOfRandomAutomata(t *testing.T) {
	source := rand.New(rand.NewSource(11))
	for _, s := range ringCases() {
		for range 25 {
			a := random(t, source, s, 1+source.Intn(2), 1+source.Intn(4), source.Intn(16))
			for _, word := range allWords(a.Symbols, 3) {
				checkAllPaths(t, a, word)
			}
		}
	}
}

func TestPathsOfTheEmptyWord(t *testing.T) {
	source := rand.New(rand.NewSource(12))
	for _, s := range ringCases() {
		a := random(t, source, s, 2, 6, 10)
		for _, word := range [][]int{nil, {}} {
			checkAllPaths(t, a, word)
		}
		// All 64 states begin and end: as many paths as may be listed.
		one := semiring.One(s.ring)
		wide := blank(s.ring, 1, api.MaxStates)
		var want []api.Path
		for i := range api.MaxStates {
			wide.Initial[i], wide.Final[i] = one, one
			want = append(want, api.Path{Start: i, Weight: one})
		}
		for _, most := range []int{0, 1, 63, 64} {
			checkPaths(t, wide, nil, most, number(api.MaxStates).Q, want[:most])
		}
	}
}

func TestPathsWithoutStatesOrArcs(t *testing.T) {
	for _, s := range ringCases() {
		for _, word := range [][]int{nil, {1}, {2, 1}, slices.Repeat([]int{1}, api.MaxWord)} {
			for _, most := range []int{0, 1, api.MaxList} {
				checkPaths(t, api.Auto{Ring: s.ring, Symbols: 2}, word, most, api.Rat{}, nil)
				checkPaths(t, blank(s.ring, 2, 2), word, most, api.Rat{}, nil)
			}
		}
	}
}

// full returns an automaton with arcs of all labels, of weight One, between all states, each of which begins and ends.
func full(r api.Ring, symbols, states int) api.Auto {
	one := semiring.One(r)
	a := blank(r, symbols, states)
	for from := range states {
		a.Initial[from], a.Final[from] = one, one
		for label := 1; label <= symbols; label++ {
			for to := range states {
				a.Arcs = append(a.Arcs, api.Arc{From: from, Label: label, To: to, Weight: one})
			}
		}
	}
	return a
}

// powerOfTwo returns 2^bits.
func powerOfTwo(bits int) api.Rat {
	num := make([]uint32, bits/32+1)
	num[bits/32] = 1 << (bits % 32)
	return api.Rat{Num: num}
}

func TestNumbersOfPaths(t *testing.T) {
	for _, s := range ringCases() {
		a := full(s.ring, 1, 2)
		for _, length := range []int{0, 1, 5, 30, 31, 32, 61, 62, 63, 64, api.MaxWord - 1, api.MaxWord} {
			word := slices.Repeat([]int{1}, length)
			// The first two paths from state 0 differ in their last arcs.
			var want []api.Path
			if length > 0 {
				for last := range 2 {
					arcs := make([]int, length)
					arcs[length-1] = last
					want = append(want, api.Path{Start: 0, Arcs: arcs, Weight: semiring.One(s.ring)})
				}
			} else {
				want = []api.Path{{Start: 0, Weight: semiring.One(s.ring)}, {Start: 1, Weight: semiring.One(s.ring)}}
			}
			for most := range 3 {
				checkPaths(t, a, word, most, powerOfTwo(length+1), want[:most])
			}
		}
	}
}

func TestPathsBeyondTheList(t *testing.T) {
	// 32 states with 1024 arcs for each of two symbols: 32^257 paths.
	a := full(costs(), 2, 32)
	word := slices.Repeat([]int{2, 1}, api.MaxWord/2)
	var want []api.Path
	for i := range api.MaxList {
		// In the normal form the arcs of state q are from 64 q on, 32 with the symbol 1 and then 32 with 2.
		arcs := make([]int, api.MaxWord)
		for k := range arcs {
			arcs[k] = 32 * (word[k] - 1)
		}
		middle := i / 32
		arcs[api.MaxWord-2] = 32 + middle
		arcs[api.MaxWord-1] = 64*middle + i%32
		want = append(want, api.Path{Start: 0, Arcs: arcs})
	}
	for _, most := range []int{0, 1, 31, 32, 33, api.MaxList - 1, api.MaxList} {
		checkPaths(t, a, word, most, powerOfTwo(5*(api.MaxWord+1)), want[:most])
	}
}

func TestPathsThatEndNowhere(t *testing.T) {
	// Of the 2^255 paths among the first two states, none goes on with the last symbol.
	arcs := []string{"2 1 2 5", "2 2 2 1/2"}
	for _, ends := range []string{"0 1 0", "0 1 1", "1 1 0", "1 1 1"} {
		arcs = append(arcs, ends+" 3")
	}
	a := model(t, numbers(), 2, "1 1 1", "1 1 1", arcs...)
	word := append(slices.Repeat([]int{1}, api.MaxWord-1), 2)
	path := api.Path{Start: 2, Arcs: append(slices.Repeat([]int{4}, api.MaxWord-1), 5)}
	path.Weight = semiring.Times(numbers(), power(numbers(), number(5), api.MaxWord-1), read(t, numbers(), "1/2"))
	for _, most := range []int{1, 2, api.MaxList} {
		checkPaths(t, a, word, most, number(1).Q, []api.Path{path})
	}
	a.Final[2] = number(0)
	for _, most := range []int{0, 1, api.MaxList} {
		checkPaths(t, a, word, most, api.Rat{}, nil)
	}
}

func TestTotalOfLongWords(t *testing.T) {
	source := rand.New(rand.NewSource(13))
	for _, s := range ringCases() {
		for range 5 {
			// From state 0 there is one way to go on, and one to state 1, from which none leads back: length + 1 paths.
			a := blank(s.ring, 1, 2)
			weight := func() api.Weight { return read(t, s.ring, s.texts[1+source.Intn(len(s.texts)-1)]) }
			a.Initial[0], a.Final[0], a.Final[1] = weight(), weight(), weight()
			a.Arcs = []api.Arc{{From: 0, Label: 1, To: 0, Weight: weight()}, {From: 0, Label: 1, To: 1, Weight: weight()}, {From: 1, Label: 1, To: 1, Weight: weight()}}
			for _, length := range []int{20, api.MaxList - 1} {
				word := slices.Repeat([]int{1}, length)
				checkTotal(t, a, word)
				if _, n, e := weigh.Paths(a, word, 0); e != api.OK || !equalNumbers(n, number(length+1).Q) {
					t.Errorf("%v: %v paths, %v", a, n, e)
				}
			}
		}
	}
}
