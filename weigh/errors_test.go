package weigh_test

import (
	"fmt"
	"math"
	"slices"
	"testing"

	"weighted/api"
	"weighted/semiring"
	"weighted/weigh"
)

// checkErrors checks the errors of all functions, and that there is nothing else. Paths has one of its own, which comes last.
func checkErrors(t *testing.T, what string, a api.Auto, word []int, want api.Errno) {
	t.Helper()
	if got, e := weigh.Forward(a, word); e != want || len(got) > 0 {
		t.Errorf("%s: Forward: %v, %v, not %v", what, got, e, want)
	}
	if got, e := weigh.Backward(a, word); e != want || len(got) > 0 {
		t.Errorf("%s: Backward: %v, %v, not %v", what, got, e, want)
	}
	if got, e := weigh.Weight(a, word); e != want || !semiring.Equal(got, api.Weight{}) {
		t.Errorf("%s: Weight: %v, %v, not %v", what, got, e, want)
	}
	for _, most := range append(badNumbers(), 0, 1, api.MaxList) {
		checkNoPaths(t, what, a, word, most, want)
	}
}

// checkNoPaths checks the error of Paths, and that there is nothing else.
func checkNoPaths(t *testing.T, what string, a api.Auto, word []int, most int, want api.Errno) {
	t.Helper()
	if got, n, e := weigh.Paths(a, word, most); e != want || len(got) > 0 || !equalNumbers(n, api.Rat{}) {
		t.Errorf("%s: the first %d paths: %v, %v, %v, not %v", what, most, got, n, e, want)
	}
}

// badNumbers returns numbers of paths that may not be asked for.
func badNumbers() []int {
	return []int{-1, -2, api.MaxList + 1, api.MaxList + 2, 1 << 32, math.MinInt, math.MaxInt}
}

// invalid returns automata that are not valid, each for one reason and with its name.
func invalid(t *testing.T) map[string]api.Auto {
	t.Helper()
	out := map[string]api.Auto{"zero value": {}}
	for _, s := range ringCases() {
		one := semiring.One(s.ring)
		add := func(what string, change func(a *api.Auto)) {
			a := full(s.ring, 2, 2)
			change(&a)
			out[fmt.Sprintf("%v: %s", s.ring, what)] = a
		}
		add("no ring", func(a *api.Auto) { a.Ring.Kind = 0 })
		add("another ring", func(a *api.Auto) { a.Ring.Kind = api.Product; a.Ring.Parts = []int{api.Viterbi} })
		add("no symbols", func(a *api.Auto) { a.Symbols = 0; a.Arcs = nil })
		add("too many symbols", func(a *api.Auto) { a.Symbols = api.MaxSymbols + 1 })
		add("states below 0", func(a *api.Auto) { *a = api.Auto{Ring: s.ring, Symbols: 2, States: -1} })
		add("too many states", func(a *api.Auto) { *a = blank(s.ring, 2, api.MaxStates+1) })
		add("another number of states", func(a *api.Auto) { a.States = 3 })
		add("Initial shorter", func(a *api.Auto) { a.Initial = a.Initial[:1] })
		add("Final longer", func(a *api.Auto) { a.Final = append(a.Final, one) })
		add("an Initial weight", func(a *api.Auto) { a.Initial[1] = api.Weight{Cost: -1} })
		add("a Final weight", func(a *api.Auto) { a.Final[0] = api.Weight{Cost: -1} })
		add("a weight of an arc", func(a *api.Auto) { a.Arcs[3].Weight = api.Weight{Cost: -1} })
		add("From", func(a *api.Auto) { a.Arcs[3].From = 2 })
		add("To", func(a *api.Auto) { a.Arcs[3].To = -1 })
		add("Label", func(a *api.Auto) { a.Arcs[3].Label = 3 })
		add("Label below 0", func(a *api.Auto) { a.Arcs[3].Label = -1 })
		add("too many arcs", func(a *api.Auto) { a.Arcs = slices.Repeat(a.Arcs[:1], api.MaxArcs+1) })
	}
	return out
}

// badWords returns words that are none over so many symbols.
func badWords(symbols int) [][]int {
	return [][]int{
		{0}, {-1}, {symbols + 1}, {math.MinInt}, {math.MaxInt}, {1<<32 + 1},
		{1, symbols, 0}, {0, 1}, {symbols + 1, 1}, {1, symbols + 1},
		slices.Repeat([]int{1}, api.MaxWord+1),
		append(slices.Repeat([]int{symbols}, api.MaxWord), 0),
	}
}

// withEmptyLabels returns automata the normal form of which has an arc with the empty label, with their names. One of them has no path with that arc.
func withEmptyLabels(t *testing.T) map[string]api.Auto {
	t.Helper()
	out := map[string]api.Auto{}
	for _, s := range ringCases() {
		for i, text := range s.texts {
			w := read(t, s.ring, text)
			if isZero(s.ring, w) {
				continue
			}
			loop := full(s.ring, 2, 2)
			loop.Arcs = append(loop.Arcs, api.Arc{From: 1, Label: 0, To: 1, Weight: w})
			out[fmt.Sprintf("%v: loop %d", s.ring, i)] = loop
			useless := blank(s.ring, 2, 2)
			useless.Arcs = []api.Arc{{From: 0, Label: 0, To: 1, Weight: w}, {From: 0, Label: 0, To: 1, Weight: semiring.Zero(s.ring)}}
			out[fmt.Sprintf("%v: useless %d", s.ring, i)] = useless
			// What vanishes elsewhere changes nothing.
			more := full(s.ring, 2, 3)
			more.Arcs = slices.Concat(vanishing(t, s, 0, 0, 1), more.Arcs, []api.Arc{{From: 0, Label: 0, To: 2, Weight: w}})
			out[fmt.Sprintf("%v: more %d", s.ring, i)] = more
		}
	}
	return out
}

func TestAutomataThatAreNotValid(t *testing.T) {
	for name, a := range invalid(t) {
		for _, word := range append(badWords(2), nil, []int{1, 2}) {
			checkErrors(t, name, a, word, api.ErrForm)
			// An empty label besides is no other error.
			b := a
			b.Arcs = append(slices.Clone(a.Arcs), api.Arc{Label: 0, Weight: semiring.One(a.Ring)})
			checkErrors(t, name, b, word, api.ErrForm)
		}
	}
}

func TestEmptyLabels(t *testing.T) {
	for name, a := range withEmptyLabels(t) {
		for _, word := range append(badWords(2), nil, []int{1, 2}, slices.Repeat([]int{1}, api.MaxWord)) {
			checkErrors(t, name, a, word, api.ErrEpsilon)
		}
	}
}

func TestSumsOfEmptyLabels(t *testing.T) {
	// One arc with the empty label and the weight Zero is none, and neither are several with the sum Zero; but two of three are.
	for _, s := range ringCases() {
		for n := range len(s.none) + 1 {
			a := full(s.ring, 2, 2)
			a.Arcs = append(a.Arcs, vanishing(t, s, 0, 0, 1)[:n]...)
			sum := semiring.Zero(s.ring)
			for _, x := range a.Arcs[8:] {
				plus(s.ring, &sum, x.Weight)
			}
			if !isZero(s.ring, sum) {
				checkErrors(t, fmt.Sprintf("%v: %d empty labels", s.ring, n), a, []int{1}, api.ErrEpsilon)
				continue
			}
			if got := mustWeight(t, a, []int{1}); isZero(s.ring, got) {
				t.Errorf("%v: %d empty labels: the weight %v", s.ring, n, got)
			}
			checkAllPaths(t, a, []int{1, 2})
		}
	}
}

func TestWordsThatAreNotValid(t *testing.T) {
	for _, s := range ringCases() {
		for _, symbols := range []int{1, 2, api.MaxSymbols} {
			for i, word := range badWords(symbols) {
				for _, a := range []api.Auto{full(s.ring, symbols, 2), blank(s.ring, symbols, 2), {Ring: s.ring, Symbols: symbols}} {
					checkErrors(t, fmt.Sprintf("%v: %d symbols: word %d", s.ring, symbols, i), a, word, api.ErrLabels)
				}
			}
		}
	}
}

func TestNumbersThatMayNotBeAskedFor(t *testing.T) {
	for _, s := range ringCases() {
		for _, word := range [][]int{nil, {1}, {2, 1}, slices.Repeat([]int{2}, api.MaxWord)} {
			for _, most := range badNumbers() {
				for _, a := range []api.Auto{full(s.ring, 2, 2), blank(s.ring, 2, 1), {Ring: s.ring, Symbols: 2}} {
					checkNoPaths(t, "most", a, word, most, api.ErrRange)
				}
			}
		}
	}
}

func TestLimits(t *testing.T) {
	if api.MaxList != 64 || api.MaxWord != 256 {
		t.Errorf("%d paths, %d symbols", api.MaxList, api.MaxWord)
	}
	for _, s := range ringCases() {
		a := full(s.ring, api.MaxSymbols, 1)
		word := slices.Repeat([]int{api.MaxSymbols}, api.MaxWord)
		want := []api.Weight{semiring.One(s.ring)}
		checkSums(t, a, word, want, want, want[0])
		checkErrors(t, fmt.Sprint(s.ring), a, append(word, 1), api.ErrLabels)
	}
}
