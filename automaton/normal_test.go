package automaton

import (
	"cmp"
	"math/rand"
	"slices"
	"testing"

	"weighted/api"
	"weighted/rational"
	"weighted/semiring"
)

// checkSame checks that an automaton has the fields that are expected, and that it is valid.
func checkSame(t *testing.T, what string, got, want api.Auto) {
	t.Helper()
	if !Valid(got) || !equalFields(got, want) {
		t.Errorf("%s: %v, not %v", what, got, want)
	}
}

// equalFields compares all fields of two automata without a function of the package.
func equalFields(a, b api.Auto) bool {
	return a.Ring.Kind == b.Ring.Kind && slices.Equal(a.Ring.Parts, b.Ring.Parts) && a.Symbols == b.Symbols && a.States == b.States &&
		slices.EqualFunc(a.Initial, b.Initial, semiring.Equal) && slices.EqualFunc(a.Final, b.Final, semiring.Equal) &&
		slices.EqualFunc(a.Arcs, b.Arcs, func(x, y api.Arc) bool {
			return x.From == y.From && x.Label == y.Label && x.To == y.To && semiring.Equal(x.Weight, y.Weight)
		})
}

// isZeroValue reports whether all fields are zero.
func isZeroValue(a api.Auto) bool {
	return equalFields(a, api.Auto{})
}

// mustNormal returns the normal form of an automaton that is valid.
func mustNormal(t *testing.T, a api.Auto) api.Auto {
	t.Helper()
	b, e := Normal(a)
	if e != api.OK {
		t.Fatalf("no normal form of %v: %v", a, e)
	}
	return b
}

func TestNormalOfArcs(t *testing.T) {
	rationals, costs, chances := api.Ring{Kind: api.Rational}, api.Ring{Kind: api.Tropical}, api.Ring{Kind: api.Viterbi}
	sets, polynomials, pairs := api.Ring{Kind: api.Sets}, api.Ring{Kind: api.Polynomial}, product(api.Rational, api.Tropical)
	for _, x := range []struct {
		ring        api.Ring
		given, want []string
	}{
		{rationals, nil, nil},
		{rationals, []string{"0 2 1 1/2", "0 2 1 -1/2"}, nil},
		{rationals, []string{"0 2 1 1/2", "0 2 1 1/3"}, []string{"0 2 1 5/6"}},
		{rationals, []string{"0 2 1 0"}, nil},
		{rationals, []string{"0 2 1 0", "0 2 1 0"}, nil},
		{rationals, []string{"0 2 1 0", "0 2 1 7"}, []string{"0 2 1 7"}},
		{rationals, []string{"0 2 1 7", "1 2 1 4", "0 2 1 -7"}, []string{"1 2 1 4"}},
		{rationals, []string{"1 0 1 1", "0 2 1 3", "1 0 0 2", "0 2 1 4", "0 1 1 5", "1 0 1 6"}, []string{"0 1 1 5", "0 2 1 7", "1 0 0 2", "1 0 1 7"}},
		{rationals, []string{"0 2 1 1", "0 2 1 1", "0 2 1 -2"}, nil},
		{rationals, []string{"0 2 1 1", "0 2 0 -1", "0 1 1 -1", "1 2 1 -1"}, []string{"0 1 1 -1", "0 2 0 -1", "0 2 1 1", "1 2 1 -1"}},
		{rationals, []string{"0 0 0 1/2", "0 0 0 1/2"}, []string{"0 0 0 1"}},
		{costs, []string{"0 2 1 5", "1 2 1 inf", "0 2 1 3"}, []string{"0 2 1 3"}},
		{costs, []string{"0 2 1 inf", "0 1 1 0", "0 2 1 inf"}, []string{"0 1 1 0"}},
		{costs, []string{"0 2 1 inf", "0 2 1 1099511627776"}, []string{"0 2 1 1099511627776"}},
		{chances, []string{"0 2 1 1/3", "0 2 1 1/2", "0 2 0 0"}, []string{"0 2 1 1/2"}},
		{sets, []string{"0 2 1 000000000000000c", "0 2 0 0000000000000000", "0 2 1 800000000000000a"}, []string{"0 2 1 800000000000000e"}},
		{polynomials, []string{"0 2 1 a", "0 2 1 -a"}, nil},
		{polynomials, []string{"0 2 1 a+1", "1 1 1 b", "0 2 1 -a+b"}, []string{"0 2 1 b+1", "1 1 1 b"}},
		{pairs, []string{"0 2 1 1/2|inf", "0 2 1 -1/2|inf"}, nil},
		{pairs, []string{"0 2 1 1/2|5", "0 2 1 -1/2|3"}, []string{"0 2 1 0|3"}},
		{pairs, []string{"0 2 1 0|inf", "0 2 0 1|inf", "0 1 0 0|0"}, []string{"0 1 0 0|0", "0 2 0 1|inf"}},
	} {
		a := blank(x.ring, 2, 2)
		a.Initial[1], a.Final[0] = semiring.One(x.ring), semiring.One(x.ring)
		want := remade(a, 0)
		a.Arcs, want.Arcs = arcs(t, x.ring, x.given...), arcs(t, x.ring, x.want...)
		checkSame(t, "normal form", mustNormal(t, a), want)
		slices.Reverse(a.Arcs)
		checkSame(t, "normal form of the arcs in reverse", mustNormal(t, a), want)
	}
}

// merge returns the arcs of the normal form, found by looking for each arc that there can be.
func merge(a api.Auto) []api.Arc {
	zero := semiring.Zero(a.Ring)
	var out []api.Arc
	for from := range a.States {
		for label := range a.Symbols + 1 {
			for to := range a.States {
				sum := zero
				for _, x := range a.Arcs {
					if x.From == from && x.Label == label && x.To == to {
						sum = semiring.Plus(a.Ring, sum, x.Weight)
					}
				}
				if !semiring.Equal(sum, zero) {
					out = append(out, api.Arc{From: from, Label: label, To: to, Weight: sum})
				}
			}
		}
	}
	return out
}

func TestNormalOfRandomAutomata(t *testing.T) {
	source := rand.New(rand.NewSource(1))
	for _, s := range ringCases() {
		for round := range 60 {
			a := random(t, source, s, 1+source.Intn(3), 1+source.Intn(4), source.Intn(2*round+2))
			want := remade(a, 0)
			want.Arcs = merge(a)
			got := mustNormal(t, a)
			checkSame(t, "normal form", got, want)
			checkSame(t, "normal form of the normal form", mustNormal(t, got), want)
			source.Shuffle(len(a.Arcs), func(i, k int) { a.Arcs[i], a.Arcs[k] = a.Arcs[k], a.Arcs[i] })
			checkSame(t, "normal form of other arcs", mustNormal(t, a), want)
		}
	}
}

func TestNormalKeepsAllElse(t *testing.T) {
	for _, s := range ringCases() {
		weights := readAll(t, s.ring, s.texts...)
		for states := range api.MaxStates + 1 {
			a := blank(s.ring, 1+states%api.MaxSymbols, states)
			for i := range states {
				a.Initial[i], a.Final[i] = weights[i%len(weights)], weights[(i+1)%len(weights)]
			}
			checkSame(t, "without arcs", mustNormal(t, a), a)
		}
	}
}

func TestNormalIsInOrder(t *testing.T) {
	source := rand.New(rand.NewSource(2))
	for _, s := range ringCases() {
		want := blank(s.ring, 2, 3)
		for from := range 3 {
			for label := range 3 {
				for to := range 3 {
					want.Arcs = append(want.Arcs, api.Arc{From: from, Label: label, To: to, Weight: semiring.One(s.ring)})
				}
			}
		}
		for range 50 {
			a := remade(want, 0)
			source.Shuffle(len(a.Arcs), func(i, k int) { a.Arcs[i], a.Arcs[k] = a.Arcs[k], a.Arcs[i] })
			checkSame(t, "order", mustNormal(t, a), want)
		}
	}
}

func TestNormalOfAllArcsThatThereMayBe(t *testing.T) {
	source := rand.New(rand.NewSource(3))
	for _, s := range ringCases() {
		// Each of 64 states has 32 arcs, so that there are MaxArcs of them, all different.
		want := blank(s.ring, api.MaxSymbols, api.MaxStates)
		for from := range api.MaxStates {
			for label := 1; label <= api.MaxSymbols; label++ {
				want.Arcs = append(want.Arcs, api.Arc{From: from, Label: label, To: (from * label) % api.MaxStates, Weight: read(t, s.ring, s.texts[1+source.Intn(len(s.texts)-1)])})
			}
		}
		a := remade(want, 0)
		source.Shuffle(len(a.Arcs), func(i, k int) { a.Arcs[i], a.Arcs[k] = a.Arcs[k], a.Arcs[i] })
		checkSame(t, "MaxArcs arcs", mustNormal(t, a), want)
		a.Arcs = append(a.Arcs, a.Arcs[0])
		if got, e := Normal(a); e != api.ErrForm || !isZeroValue(got) {
			t.Errorf("%v: one more arc: %v", s.ring, e)
		}
	}
}

func TestNormalOfManyEqualArcs(t *testing.T) {
	ring := api.Ring{Kind: api.Rational}
	a := blank(ring, 1, 2)
	for n := range api.MaxArcs {
		// 1/1 - 1/2 + 1/2 - 1/3 + .. : what is left is 1 less the last number.
		x, _ := rational.Make(1-n%2*2, 1+(n+1)/2)
		a.Arcs = append(a.Arcs, api.Arc{From: 1, Label: 1, To: 0, Weight: api.Weight{Q: x}})
	}
	want := blank(ring, 1, 2)
	want.Arcs = arcs(t, ring, "1 1 0 1024/1025")
	checkSame(t, "sum", mustNormal(t, a), want)
	last := a.Arcs[api.MaxArcs-1]
	last.Weight.Q = rational.Neg(read(t, ring, "1024/1025").Q)
	a.Arcs = append(mustNormal(t, a).Arcs, last)
	checkSame(t, "sum", mustNormal(t, a), blank(ring, 1, 2))
}

func TestNormalOfLongSums(t *testing.T) {
	// The sum has a denominator of thousands of digits, which only few of the additions may see.
	ring := api.Ring{Kind: api.Rational}
	a := blank(ring, 1, 1)
	var want api.Rat
	for n := range api.MaxArcs {
		x, _ := rational.Make(1, 1<<20+2*n+1)
		a.Arcs = append(a.Arcs, api.Arc{Label: 1, Weight: api.Weight{Q: x}})
		if n < 20 {
			want = rational.Add(want, x)
		}
	}
	few := remade(a, 0)
	few.Arcs = few.Arcs[:20]
	if got := mustNormal(t, few); len(got.Arcs) != 1 || rational.Compare(got.Arcs[0].Weight.Q, want) != 0 {
		t.Errorf("the sum of 20 weights is %v, not %v", got.Arcs, want)
	}
	if got := mustNormal(t, a); len(got.Arcs) != 1 || len(got.Arcs[0].Weight.Q.Den) < 500 {
		t.Errorf("%d arcs", len(got.Arcs))
	}
}

func TestNormalWithoutAutomaton(t *testing.T) {
	for name, a := range invalid(t) {
		if got, e := Normal(a); e != api.ErrForm || !isZeroValue(got) {
			t.Errorf("%s: %v, %v", name, got, e)
		}
	}
	for name, a := range invalidByLimits() {
		if got, e := Normal(a); e != api.ErrForm || !isZeroValue(got) {
			t.Errorf("%s: %v, %v", name, got, e)
		}
	}
}

// labelled returns the weight of all paths with a list of labels, which may be empty ones.
func labelled(a api.Auto, labels []int) api.Weight {
	at := a.Initial
	for _, label := range labels {
		next := blank(a.Ring, 1, a.States).Initial
		for _, x := range a.Arcs {
			if x.Label == label {
				next[x.To] = semiring.Plus(a.Ring, next[x.To], semiring.Times(a.Ring, at[x.From], x.Weight))
			}
		}
		at = next
	}
	sum := semiring.Zero(a.Ring)
	for i, w := range at {
		sum = semiring.Plus(a.Ring, sum, semiring.Times(a.Ring, w, a.Final[i]))
	}
	return sum
}

// checkSeries checks that two automata give all short lists of labels the same weight. Then they give each short word the same one, whatever empty labels count as.
func checkSeries(t *testing.T, what string, a, b api.Auto) {
	t.Helper()
	lists := [][]int{nil}
	for i := 0; i < len(lists); i++ {
		if v, w := labelled(a, lists[i]), labelled(b, lists[i]); !semiring.Equal(v, w) {
			t.Fatalf("%s: %v has the weights %v and %v", what, lists[i], v, w)
		}
		for label := 0; label <= a.Symbols && len(lists[i]) < 3; label++ {
			lists = append(lists, append(slices.Clone(lists[i]), label))
		}
	}
}

func TestNormalHasTheSeries(t *testing.T) {
	source := rand.New(rand.NewSource(4))
	for _, s := range ringCases() {
		for range 12 {
			a := random(t, source, s, 2, 1+source.Intn(3), source.Intn(15))
			checkSeries(t, "normal form", a, mustNormal(t, a))
		}
	}
}

func TestSame(t *testing.T) {
	for _, s := range ringCases() {
		a := sample(t, s)
		if !Same(a, a) || !Same(a, remade(a, 0)) || !Same(remade(a, 2), a) {
			t.Errorf("%v: not the same", s.ring)
		}
		for i, change := range []func(a *api.Auto){
			func(a *api.Auto) { a.Ring.Kind++ },
			func(a *api.Auto) { a.Ring.Parts = append(a.Ring.Parts, api.Rational) },
			func(a *api.Auto) { a.Symbols++ },
			func(a *api.Auto) { a.States++ },
			func(a *api.Auto) { a.States = -1 },
			func(a *api.Auto) { a.Initial = append(a.Initial, semiring.Zero(s.ring)) },
			func(a *api.Auto) { a.Initial = a.Initial[:2] },
			func(a *api.Auto) { a.Initial[0] = semiring.One(s.ring) },
			func(a *api.Auto) { a.Initial[2] = api.Weight{Cost: 77} },
			func(a *api.Auto) { a.Final = append(a.Final, semiring.Zero(s.ring)) },
			func(a *api.Auto) { a.Final = nil },
			func(a *api.Auto) { a.Final[0] = api.Weight{Set: 77} },
			func(a *api.Auto) { a.Final[2] = semiring.One(s.ring) },
			func(a *api.Auto) { a.Initial, a.Final = a.Final, a.Initial },
			func(a *api.Auto) { a.Arcs = nil },
			func(a *api.Auto) { a.Arcs = a.Arcs[:len(a.Arcs)-1] },
			func(a *api.Auto) { a.Arcs = a.Arcs[1:] },
			func(a *api.Auto) { a.Arcs = append(a.Arcs, a.Arcs[0]) },
			func(a *api.Auto) { a.Arcs[0], a.Arcs[1] = a.Arcs[1], a.Arcs[0] },
			func(a *api.Auto) { a.Arcs[0].From++ },
			func(a *api.Auto) { a.Arcs[1].Label-- },
			func(a *api.Auto) { a.Arcs[2].To = -1 },
			func(a *api.Auto) { a.Arcs[1].From, a.Arcs[1].To = a.Arcs[1].To, a.Arcs[1].From },
			func(a *api.Auto) { a.Arcs[len(a.Arcs)-1].Weight = semiring.Zero(s.ring) },
			func(a *api.Auto) { a.Arcs[0].Weight = s.wrong[0] },
		} {
			b := changed(a, change)
			if Same(a, b) || Same(b, a) {
				t.Errorf("%v: the same in spite of change %d", s.ring, i)
			}
			if !Same(b, remade(b, 1)) {
				t.Errorf("%v: not the same with change %d", s.ring, i)
			}
		}
	}
	empty := api.Auto{Ring: api.Ring{Parts: []int{}}, Initial: []api.Weight{}, Final: []api.Weight{}, Arcs: []api.Arc{}}
	if !Same(api.Auto{}, empty) || !Same(empty, api.Auto{}) {
		t.Error("nil slices and empty ones")
	}
}

func TestSameComparesFieldsAlone(t *testing.T) {
	// The same series and the same normal form do not make automata the same.
	for _, s := range ringCases() {
		a := blank(s.ring, 1, 2)
		a.Arcs = []api.Arc{{From: 0, Label: 1, To: 1, Weight: semiring.Zero(s.ring)}}
		b := mustNormal(t, a)
		if Same(a, b) {
			t.Errorf("%v: the same as its normal form", s.ring)
		}
		if !Same(b, mustNormal(t, b)) {
			t.Errorf("%v: the normal form is not its own", s.ring)
		}
	}
	for name, a := range invalid(t) {
		if !Same(a, remade(a, 1)) {
			t.Errorf("%s: not the same as itself", name)
		}
	}
	ordered := slices.IsSortedFunc(sample(t, ringCases()[0]).Arcs, func(x, y api.Arc) int { return cmp.Compare(x.From, y.From) })
	if ordered {
		t.Error("the arcs of the sample stand in order, so that it shows less")
	}
}
