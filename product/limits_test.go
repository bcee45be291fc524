package product_test

import (
	"slices"
	"testing"

	"weighted/api"
	"weighted/automaton"
	"weighted/combine"
	"weighted/product"
	"weighted/samples"
	"weighted/semiring"
)

// sized returns an automaton over MaxSymbols symbols with so many states, all of them useful because their Initial and Final are One, and with so many arcs of each label.
func sized(t *testing.T, r api.Ring, states int, counts ...int) api.Auto {
	t.Helper()
	one := semiring.One(r)
	a := samples.Sized(r, states, 0)
	for k, count := range counts {
		if count > states*states {
			t.Fatalf("%d states have no %d arcs with a label", states, count)
		}
		for i := range count {
			a.Arcs = append(a.Arcs, api.Arc{From: i % states, Label: k + 1, To: i / states, Weight: one})
		}
	}
	return a
}

// burdened returns an automaton with the same useful states and the arcs of these, as many other states as there may be, some of which are reached and some of which reach the others, and as many other arcs.
func burdened(a api.Auto) api.Auto {
	zero, one := semiring.Zero(a.Ring), semiring.One(a.Ring)
	out, reached, reach := a, api.MaxStates-1, api.MaxStates-2
	more := slices.Repeat([]api.Weight{zero}, api.MaxStates-a.States)
	out.States, out.Initial, out.Final = api.MaxStates, slices.Concat(a.Initial, more), slices.Concat(a.Final, more)
	// What is initial, but leads nowhere, and what is final, but is not reached, is not useful either.
	out.Initial[reached], out.Final[reach] = one, one
	for label := 1; label <= a.Symbols; label++ {
		for state := range a.States {
			out.Arcs = append(out.Arcs, api.Arc{From: state, Label: label, To: reached, Weight: one}, api.Arc{From: reach, Label: label, To: state, Weight: one})
		}
		for state := a.States; state < reach; state++ {
			out.Arcs = append(out.Arcs, api.Arc{From: reach, Label: label, To: state, Weight: one}, api.Arc{From: state, Label: label, To: reached, Weight: one}, api.Arc{From: state, Label: label, To: state, Weight: one})
		}
	}
	out.Arcs = slices.Concat(a.Arcs, out.Arcs[len(a.Arcs):min(len(out.Arcs), api.MaxArcs)])
	slices.Reverse(out.Arcs)
	return out
}

// someWords are words over MaxSymbols symbols.
func someWords() [][]int {
	return [][]int{nil, {1}, {2}, {32}, {2, 1}, {1, 1, 1}}
}

// checkPairs checks that two automata have a product, also if states that are not useful stand beside theirs.
func checkPairs(t *testing.T, what string, a, b api.Auto, states, arcs int) {
	t.Helper()
	for _, x := range [][2]api.Auto{{a, b}, {b, a}} {
		out := hadamard(t, x[0], x[1])
		if out.States != states || len(out.Arcs) != arcs {
			t.Errorf("%s: %d states and %d arcs, not %d and %d", what, out.States, len(out.Arcs), states, arcs)
		}
		expectProduct(t, what, out, x[0], x[1], someWords())
		if x[0].States > api.MaxStates-2 || x[1].States > api.MaxStates-2 {
			continue
		}
		for _, y := range [][2]api.Auto{{burdened(x[0]), x[1]}, {x[0], burdened(x[1])}, {burdened(x[0]), burdened(x[1])}} {
			samples.Expect(t, what+", burdened", hadamard(t, y[0], y[1]), out)
		}
	}
}

// checkBeyond checks that the answer is right, or ErrLimit.
func checkBeyond(t *testing.T, what string, a, b api.Auto) {
	t.Helper()
	for _, x := range [][2]api.Auto{{a, b}, {b, a}} {
		out, e := product.Hadamard(x[0], x[1])
		if e == api.OK {
			expectProduct(t, what, checked(t, a, samples.Must(t, out, e)), x[0], x[1], someWords())
		} else {
			samples.Fail(t, what, out, e, api.ErrLimit)
		}
	}
}

func TestBurdened(t *testing.T) {
	a := burdened(sized(t, api.Ring{Kind: api.Tropical}, 8, 64, 5))
	if !automaton.Valid(a) || a.States != api.MaxStates || len(a.Arcs) != api.MaxArcs {
		t.Errorf("%d states, %d arcs", a.States, len(a.Arcs))
	}
}

func TestAsManyPairsOfStates(t *testing.T) {
	for i, s := range samples.Cases() {
		r := s.Ring(t)
		for _, states := range [][]int{{1, 3}, {2}, {5}, {8}, {31}, {32}, {62, 1}, {64}}[i] {
			most := api.MaxStates / states
			checkPairs(t, s.Line, sized(t, r, states), sized(t, r, most), states*most, 0)
			if states > 1 {
				checkBeyond(t, s.Line, sized(t, r, states), sized(t, r, most+1))
			}
			// Each state has a loop.
			checkPairs(t, s.Line, sized(t, r, states, 1), sized(t, r, most, 0, most), states*most, 0)
		}
		checkBeyond(t, s.Line, sized(t, r, 64), sized(t, r, 64))
		checkBeyond(t, s.Line, sized(t, r, 5), sized(t, r, 13))
		checkPairs(t, s.Line, sized(t, r, 64), sized(t, r, 0), 0, 0)
		checkPairs(t, s.Line, sized(t, r, 64, 2048), sized(t, r, 1), 64, 0)
	}
}

func TestAsManyPairsOfArcs(t *testing.T) {
	all := slices.Repeat([]int{8}, 32)
	for i, s := range samples.Cases() {
		r := s.Ring(t)
		for k, x := range []struct {
			m      int
			first  []int
			n      int
			second []int
			arcs   int
		}{
			{64, []int{2048}, 1, []int{1}, 2048},
			{32, []int{1024, 1024}, 2, []int{1, 1}, 2048},
			{32, []int{1024}, 2, []int{2}, 2048},
			{8, []int{64}, 8, []int{32}, 2048},
			{8, []int{64, 10}, 8, []int{31, 6}, 2044},
			{8, []int{64, 11, 64}, 8, []int{31, 5, 0}, 2039},
			{8, []int{64, 64, 0}, 8, []int{31, 1, 64}, 2048},
			{8, all, 8, all, 2048},
			{5, []int{25, 25, 25, 25}, 12, []int{81, 0, 0, 0}, 2025},
			{61, []int{0, 2048}, 1, []int{1, 1}, 2048},
		} {
			if (i+k)%7 > 0 {
				continue
			}
			checkPairs(t, s.Line, sized(t, r, x.m, x.first...), sized(t, r, x.n, x.second...), x.m*x.n, x.arcs)
			more := slices.Clone(x.second)
			more[0] = min(more[0]+1, x.n*x.n)
			checkBeyond(t, s.Line, sized(t, r, x.m, x.first...), sized(t, r, x.n, more...))
		}
	}
}

func TestFarBeyondTheLimits(t *testing.T) {
	for i, s := range samples.Cases() {
		r := s.Ring(t)
		if i%4 > 0 {
			// These are large, and differ little from ring to ring.
			checkBeyond(t, s.Line, sized(t, r, 8, 64), sized(t, r, 8, 33))
			continue
		}
		checkBeyond(t, s.Line, sized(t, r, 64, 2048), sized(t, r, 64, 2048))
		checkBeyond(t, s.Line, sized(t, r, 64, 2048), sized(t, r, 64, 0, 2048))
		checkBeyond(t, s.Line, sized(t, r, 64, 1024, 1024), sized(t, r, 1, 1, 1))
		checkBeyond(t, s.Line, sized(t, r, 8, 64), sized(t, r, 8, 64))
		checkBeyond(t, s.Line, sized(t, r, 9, 81), sized(t, r, 9, 81))
	}
}

// line returns an automaton whose states follow one another, with arcs of all symbols from each one to the next.
func line(r api.Ring) api.Auto {
	a, zeros, one := samples.Sized(r, api.MaxStates, 0), slices.Repeat([]api.Weight{semiring.Zero(r)}, api.MaxStates), semiring.One(r)
	a.Initial, a.Final = zeros, slices.Clone(zeros)
	a.Initial[0], a.Final[api.MaxStates-1] = one, one
	for i := range api.MaxStates - 1 {
		for label := 1; label <= a.Symbols; label++ {
			a.Arcs = append(a.Arcs, api.Arc{From: i, Label: label, To: i + 1, Weight: one})
		}
	}
	return a
}

func TestFewPairsThatAreMet(t *testing.T) {
	// Of 64 * 64 pairs of states, paths with the same labels meet in 64.
	for _, s := range samples.Cases() {
		a := line(s.Ring(t))
		backwards := make([]int, a.States)
		for i := range backwards {
			backwards[i] = a.States - 1 - i
		}
		b, e := automaton.Renumber(a, backwards)
		if e != api.OK {
			t.Fatal(e)
		}
		for _, x := range [][2]api.Auto{{a, a}, {a, b}} {
			out := hadamard(t, x[0], x[1])
			expectProduct(t, s.Line, out, x[0], x[1], [][]int{nil, {1}, slices.Repeat([]int{1}, 62), slices.Repeat([]int{32}, 63), slices.Repeat([]int{2}, 64)})
			if out.States != api.MaxStates {
				t.Errorf("%s: %d states", s.Line, out.States)
			}
		}
	}
}

// chains returns an automaton of eight chains of states, in which arcs with the symbol 1 lead, but for the last ones, which have a symbol each.
func chains(r api.Ring) api.Auto {
	a, zeros, one := samples.Sized(r, api.MaxStates, 0), slices.Repeat([]api.Weight{semiring.Zero(r)}, api.MaxStates), semiring.One(r)
	a.Initial, a.Final = zeros, slices.Clone(zeros)
	for chain := range 8 {
		a.Initial[8*chain], a.Final[8*chain+7] = one, one
		for i := range 7 {
			a.Arcs = append(a.Arcs, api.Arc{From: 8*chain + i, Label: 1 + i/6*chain, To: 8*chain + i + 1, Weight: one})
		}
	}
	return a
}

func TestFewPairsOnCommonPaths(t *testing.T) {
	// From the start, or from the end if all is reversed, 8 * 64 pairs are met, but most of them lead nowhere.
	for _, s := range samples.Cases() {
		a := chains(s.Ring(t))
		back, e := combine.Reverse(a)
		if e != api.OK {
			t.Fatal(e)
		}
		for i := range 8 {
			word := []int{1, 1, 1, 1, 1, 1, 1 + i}
			expectProduct(t, s.Line, hadamard(t, a, a), a, a, [][]int{word, word[1:]})
			slices.Reverse(word)
			expectProduct(t, s.Line, hadamard(t, back, back), back, back, [][]int{word, word[1:]})
		}
		checkBeyond(t, s.Line, a, back)
	}
}
