package position_test

import (
	"math/rand"
	"slices"
	"strings"
	"testing"

	"weighted/api"
	"weighted/automaton"
	"weighted/position"
	"weighted/regex"
	"weighted/semiring"
)

// chapter computes what the sentences of the chapter say, one after the other.
type chapter struct {
	t       *testing.T
	ring    api.Ring
	symbols int
}

// operands returns the operands of the first operation of an expression.
func operands(e []api.ENode) [][]api.ENode {
	var out [][]api.ENode
	for rest := e[1:]; len(rest) > 0; {
		size, missing := 0, 1
		for ; missing > 0; size++ {
			switch rest[size].Op {
			case api.EZero, api.EOne, api.ESymbol:
				missing--
			case api.ESum, api.EProduct:
				missing++
			}
		}
		out = append(out, rest[:size])
		rest = rest[size:]
	}
	return out
}

func (c chapter) constant(e []api.ENode) api.Weight {
	return constantOf(c.t, c.ring, c.symbols, e)
}

func (c chapter) times(weights ...api.Weight) api.Weight {
	out := semiring.One(c.ring)
	for _, w := range weights {
		out = semiring.Times(c.ring, out, w)
	}
	return out
}

func (c chapter) all(factor api.Weight, list []api.Weight) []api.Weight {
	var out []api.Weight
	for _, w := range list {
		out = append(out, c.times(factor, w))
	}
	return out
}

// first returns what P12.1 says of First.
func (c chapter) first(e []api.ENode) []api.Weight {
	x := operands(e)
	switch e[0].Op {
	case api.ESymbol:
		return []api.Weight{semiring.One(c.ring)}
	case api.EScale:
		return c.all(e[0].Weight, c.first(x[0]))
	case api.ESum:
		return append(c.first(x[0]), c.first(x[1])...)
	case api.EProduct:
		return append(c.first(x[0]), c.all(c.constant(x[0]), c.first(x[1]))...)
	case api.EStar:
		return c.all(c.constant(e), c.first(x[0]))
	}
	return nil
}

// last returns what P12.1 says of Last.
func (c chapter) last(e []api.ENode) []api.Weight {
	x := operands(e)
	switch e[0].Op {
	case api.ESymbol:
		return []api.Weight{semiring.One(c.ring)}
	case api.EScale:
		return c.last(x[0])
	case api.ESum:
		return append(c.last(x[0]), c.last(x[1])...)
	case api.EProduct:
		return append(c.all(c.constant(x[1]), c.last(x[0])), c.last(x[1])...)
	case api.EStar:
		return c.all(c.constant(e), c.last(x[0]))
	}
	return nil
}

// follow adds what P12.2 says of Follow, for an expression with so many positions in front of it: all operations add something to the weights of pairs.
func (c chapter) follow(e []api.ENode, before int, sum map[[2]int]api.Weight) {
	add := func(p, q int, weights ...api.Weight) {
		old, is := sum[[2]int{p, q}]
		if !is {
			old = semiring.Zero(c.ring)
		}
		sum[[2]int{p, q}] = semiring.Plus(c.ring, old, c.times(weights...))
	}
	x := operands(e)
	if e[0].Op == api.EStar {
		last, constant, first := c.last(x[0]), c.constant(e), c.first(x[0])
		for i := range last {
			for j := range first {
				add(before+i+1, before+j+1, last[i], constant, first[j])
			}
		}
	}
	if e[0].Op == api.EProduct {
		last, first := c.last(x[0]), c.first(x[1])
		for i := range last {
			for j := range first {
				add(before+i+1, before+len(last)+j+1, last[i], first[j])
			}
		}
	}
	for _, operand := range x {
		c.follow(operand, before, sum)
		before += len(positionsOf(operand))
	}
}

// automaton returns what P12.2 says of Automaton, in the order of the normal form, with any number of states and arcs.
func (c chapter) automaton(e []api.ENode) api.Auto {
	labels := positionsOf(e)
	out := api.Auto{Ring: c.ring, Symbols: c.symbols, States: 1 + len(labels)}
	out.Initial = append(out.Initial, semiring.One(c.ring))
	out.Final = append([]api.Weight{c.constant(e)}, c.last(e)...)
	for range labels {
		out.Initial = append(out.Initial, semiring.Zero(c.ring))
	}
	sum := map[[2]int]api.Weight{}
	c.follow(e, 0, sum)
	for i, w := range c.first(e) {
		sum[[2]int{0, i + 1}] = w
	}
	for from := range out.States {
		for label := 1; label <= c.symbols; label++ {
			for i, l := range labels {
				if w, is := sum[[2]int{from, i + 1}]; is && l == label && !semiring.Equal(w, semiring.Zero(c.ring)) {
					out.Arcs = append(out.Arcs, api.Arc{From: from, Label: label, To: i + 1, Weight: w})
				}
			}
		}
	}
	return out
}

// checkDefinition checks all functions with an expression, which has a series.
func checkDefinition(t *testing.T, r api.Ring, symbols int, e []api.ENode, words [][]int) {
	t.Helper()
	c := chapter{t, r, symbols}
	first, last := weightsOf(t, r, symbols, e)
	if want := c.first(e); !slices.EqualFunc(first, want, semiring.Equal) {
		t.Errorf("%v: First of %s is %s, not %s", r, shown(r, e), written(r, first), written(r, want))
	}
	if want := c.last(e); !slices.EqualFunc(last, want, semiring.Equal) {
		t.Errorf("%v: Last of %s is %s, not %s", r, shown(r, e), written(r, last), written(r, want))
	}
	want := c.automaton(e)
	if want.States > api.MaxStates || len(want.Arcs) > api.MaxArcs {
		checkLimit(t, r, symbols, e)
		return
	}
	if a := mustAutomaton(t, r, symbols, e, words); !automaton.Same(a, want) {
		t.Errorf("%v: Automaton of %s has %s, not %s", r, shown(r, e), writtenAutomaton(a), writtenAutomaton(want))
	}
}

// checkLimit checks that an expression has no automaton because of its size alone.
func checkLimit(t *testing.T, r api.Ring, symbols int, e []api.ENode) {
	t.Helper()
	if a, err := position.Automaton(r, symbols, e); err != api.ErrLimit || !automaton.Same(a, api.Auto{}) {
		t.Errorf("%v: Automaton of %s has %d states and %d arcs, %v", r, shown(r, e), a.States, len(a.Arcs), err)
	}
	weightsOf(t, r, symbols, e)
}

func TestAllSmallExpressions(t *testing.T) {
	words := allWords(2, 3)
	for _, s := range ringCases() {
		found := 0
		for size, list := range allTexts(s.weights[0], 5) {
			// All expressions of five operations take their time, so that one ring has to do.
			if size == 5 && s.ring.Kind != api.Rational {
				continue
			}
			for _, text := range list {
				e := parse(t, s.ring, text)
				if !hasSeries(s.ring, 32, e) {
					checkErrors(t, s.ring, 32, e, api.ErrStar)
					continue
				}
				found++
				checkDefinition(t, s.ring, 32, e, words)
			}
		}
		if found < 200 {
			t.Errorf("%v: %d expressions", s.ring, found)
		}
	}
}

func TestRandomExpressions(t *testing.T) {
	source := rand.New(rand.NewSource(1))
	words := allWords(2, 3)
	for _, s := range ringCases() {
		found := 0
		for i := range 300 {
			e := parse(t, s.ring, random(source, s.weights, 3+i%28))
			if hasSeries(s.ring, 32, e) {
				found++
				checkDefinition(t, s.ring, 32, e, words)
			}
		}
		if found < 100 {
			t.Errorf("%v: %d expressions", s.ring, found)
		}
	}
}

func TestNestedStars(t *testing.T) {
	// A pair of positions follows each other through all the stars around it.
	words := [][]int{nil, {1}, {1, 2, 3}}
	for _, s := range ringCases() {
		for _, text := range []string{
			"a", "a b", "a + b", "a* b", "a b*", "a* b*", "(1 + a) (1 + b)", "(1 + a) b (1 + c)", "([v]1 + [w]a) ([w]1 + [v]b)", "a (b + 1) c", "[v]a + [w](b c)", "([v](a b*) + c)* [w]b",
		} {
			fill := strings.NewReplacer("[v]", "["+s.small[0]+"]", "[w]", "["+s.small[1]+"]")
			for range 2 {
				text = "([v](" + text + ") + [w]0)*"
				checkDefinition(t, s.ring, 3, parse(t, s.ring, fill.Replace(text)), words)
				text = "([w](1 + " + text + ") ([v]c + [v]1))*"
				checkDefinition(t, s.ring, 3, parse(t, s.ring, fill.Replace(text)), words)
			}
		}
		if s.ring.Kind == api.Tropical || s.ring.Kind == api.Viterbi || s.ring.Kind == api.Sets {
			// As many stars as there may be, and stars of stars.
			checkDefinition(t, s.ring, 3, parse(t, s.ring, "(a + b)"+strings.Repeat("*", api.MaxDepth-2)), words)
			checkDefinition(t, s.ring, 3, parse(t, s.ring, "((a** b**)** (1 + c)*)**"), words)
		}
	}
}

// alone returns an expression in which each position has a symbol of its own, its number.
func alone(e []api.ENode) []api.ENode {
	out := slices.Clone(e)
	n := 0
	for i := range out {
		if out[i].Op == api.ESymbol {
			n++
			out[i].Num = n
		}
	}
	return out
}

func TestSymbolsOfTheirOwn(t *testing.T) {
	// The words of one and two symbols have the weights that their only paths have.
	source := rand.New(rand.NewSource(2))
	for _, s := range ringCases() {
		for i := range 150 {
			e := alone(parse(t, s.ring, random(source, s.weights, 3+i%18)))
			if !hasSeries(s.ring, 32, e) {
				continue
			}
			c := chapter{t, s.ring, 32}
			first, last := weightsOf(t, s.ring, 32, e)
			a := mustAutomaton(t, s.ring, 32, e, nil)
			follow := map[[2]int]api.Weight{}
			for _, x := range a.Arcs {
				follow[[2]int{x.From, x.To}] = x.Weight
			}
			for p := range first {
				c.checkWord(e, []int{p + 1}, c.times(first[p], last[p]))
				for q := range first {
					w, is := follow[[2]int{p + 1, q + 1}]
					if !is {
						w = semiring.Zero(s.ring)
					}
					c.checkWord(e, []int{p + 1, q + 1}, c.times(first[p], w, last[q]))
				}
			}
		}
	}
}

// checkWord checks the weight that an expression gives a word.
func (c chapter) checkWord(e []api.ENode, word []int, got api.Weight) {
	c.t.Helper()
	if want, err := regex.Weight(c.ring, c.symbols, e, word); err != api.OK || !semiring.Equal(got, want) {
		c.t.Errorf("%v: %s gives %v the weight %s, %v, but its path has %s", c.ring, shown(c.ring, e), word, semiring.Format(c.ring, want), err, semiring.Format(c.ring, got))
	}
}
