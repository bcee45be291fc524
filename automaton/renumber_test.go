package automaton

import (
	"math/rand"
	"slices"
	"testing"

	"weighted/api"
)

// permutations returns all permutations of so many states.
func permutations(states int) [][]int {
	if states == 0 {
		return [][]int{nil}
	}
	var out [][]int
	for _, shorter := range permutations(states - 1) {
		for at := range states {
			out = append(out, slices.Insert(slices.Clone(shorter), at, states-1))
		}
	}
	return out
}

// inverse returns the permutation that undoes another one.
func inverse(to []int) []int {
	out := make([]int, len(to))
	for i, k := range to {
		out[k] = i
	}
	return out
}

// checkNoRenumber checks that there is an error, and no automaton.
func checkNoRenumber(t *testing.T, what string, a api.Auto, to []int, want api.Errno) {
	t.Helper()
	if got, e := Renumber(a, to); e != want || !isZeroValue(got) {
		t.Errorf("%s: %v: %v, %v, not %v", what, to, got, e, want)
	}
}

func TestRenumber(t *testing.T) {
	ring := api.Ring{Kind: api.Rational}
	a := api.Auto{
		Ring: ring, Symbols: 2, States: 3,
		Initial: readAll(t, ring, "1", "2", "3"),
		Final:   readAll(t, ring, "4", "5", "6"),
		Arcs:    arcs(t, ring, "0 2 1 1/2", "1 0 2 3", "2 1 2 7", "0 2 1 1/2", "1 1 0 0", "0 1 0 8", "2 2 0 5", "2 2 0 -5"),
	}
	want := api.Auto{
		Ring: ring, Symbols: 2, States: 3,
		Initial: readAll(t, ring, "2", "3", "1"),
		Final:   readAll(t, ring, "5", "6", "4"),
		Arcs:    arcs(t, ring, "0 0 1 3", "1 1 1 7", "2 1 2 8", "2 2 0 1"),
	}
	got, e := Renumber(a, []int{2, 0, 1})
	checkSame(t, "Renumber", got, want)
	if e != api.OK {
		t.Error(e)
	}
}

func TestRenumberWithAllPermutations(t *testing.T) {
	source := rand.New(rand.NewSource(5))
	for _, s := range ringCases() {
		for states := 1; states <= 4; states++ {
			for _, to := range permutations(states) {
				a := random(t, source, s, 2, states, 4*states)
				got, e := Renumber(a, to)
				if e != api.OK || !Valid(got) {
					t.Fatalf("%v: %v: %v", s.ring, to, e)
				}
				checkRenumbered(t, a, got, to)
				back, e := Renumber(got, inverse(to))
				checkSame(t, "renumbered back", back, mustNormal(t, a))
				if e != api.OK {
					t.Errorf("%v: %v", inverse(to), e)
				}
			}
		}
	}
}

// checkRenumbered checks that state i of the one automaton is state to[i] of the other one, which is in normal form.
func checkRenumbered(t *testing.T, a, got api.Auto, to []int) {
	t.Helper()
	want := remade(a, 0)
	for i, k := range to {
		want.Initial[k], want.Final[k] = a.Initial[i], a.Final[i]
	}
	for i, x := range a.Arcs {
		want.Arcs[i].From, want.Arcs[i].To = to[x.From], to[x.To]
	}
	want.Arcs = merge(want)
	checkSame(t, "Renumber", got, want)
}

func TestRenumberHasTheSeries(t *testing.T) {
	source := rand.New(rand.NewSource(6))
	for _, s := range ringCases() {
		for range 6 {
			a := random(t, source, s, 2, 3, source.Intn(12))
			got, _ := Renumber(a, source.Perm(3))
			checkSeries(t, "Renumber", a, got)
		}
	}
}

func TestRenumberOfManyStates(t *testing.T) {
	source := rand.New(rand.NewSource(7))
	for _, s := range ringCases() {
		for _, states := range []int{0, 1, api.MaxStates - 1, api.MaxStates} {
			a := blank(s.ring, 3, states)
			if states > 0 {
				a = random(t, source, s, 3, states, 300)
			}
			to := source.Perm(states)
			got, e := Renumber(a, to)
			if e != api.OK {
				t.Errorf("%v: %d states: %v", s.ring, states, e)
			}
			checkRenumbered(t, a, got, to)
		}
	}
	if got, e := Renumber(blank(api.Ring{Kind: api.Sets}, 1, 0), []int{}); e != api.OK || !Valid(got) {
		t.Errorf("an empty permutation: %v", e)
	}
}

func TestRenumberWithoutPermutation(t *testing.T) {
	for _, s := range ringCases() {
		a := sample(t, s)
		for _, to := range [][]int{nil, {}, {0}, {0, 1}, {2, 1}, {0, 1, 2, 3}, {0, 1, 2, 0}, {2, 1, 0, 2}, {0, 0, 1}, {0, 1, 1}, {2, 0, 2}, {1, 1, 1}, {0, 0, 0}, {2, 2, 2}, {1, 2, 3}, {3, 0, 1}, {0, 3, 2}} {
			checkNoRenumber(t, "no permutation", a, to, api.ErrRange)
		}
		for _, stray := range append(outside(), 3) {
			for at := range 3 {
				to := []int{0, 1, 2}
				to[at] = stray
				checkNoRenumber(t, "no state", a, to, api.ErrRange)
			}
		}
		for _, to := range [][]int{{0}, {-1}, {1}, {0, 0}} {
			checkNoRenumber(t, "without states", blank(s.ring, 1, 0), to, api.ErrRange)
		}
		full := blank(s.ring, 1, api.MaxStates)
		to := inverse(rand.New(rand.NewSource(8)).Perm(api.MaxStates))
		for at := range to {
			twice := slices.Clone(to)
			twice[at] = to[(at+1)%len(to)]
			checkNoRenumber(t, "a state twice", full, twice, api.ErrRange)
		}
		checkNoRenumber(t, "too short", full, to[1:], api.ErrRange)
		checkNoRenumber(t, "too long", full, append(to, api.MaxStates), api.ErrRange)
	}
}

func TestRenumberWithoutAutomaton(t *testing.T) {
	for name, a := range invalid(t) {
		for _, to := range [][]int{nil, {0, 1, 2}, {0, 0, 0}} {
			checkNoRenumber(t, name, a, to, api.ErrForm)
		}
	}
	for name, a := range invalidByLimits() {
		checkNoRenumber(t, name, a, nil, api.ErrForm)
		checkNoRenumber(t, name, a, rand.New(rand.NewSource(9)).Perm(max(a.States, 0)), api.ErrForm)
	}
}
