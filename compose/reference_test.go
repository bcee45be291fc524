package compose_test

import (
	"slices"
	"testing"

	"weighted/api"
	"weighted/samples"
	"weighted/semiring"
)

// place is a state of a composition.
type place struct{ p, q, f int }

// link is an arc of a composition without its weight.
type link struct {
	from, to place
	in, out  int
}

// literal is a composition as the sentences of the chapter say it, with all its states and arcs.
type literal struct {
	t, u    api.Trans
	links   []link
	weights []api.Weight
	// merged holds the sums of the weights of equal links.
	merged map[link]api.Weight
	// ahead holds the arcs that are not Zero by the states that they lead from.
	ahead map[place][]place
}

// add adds an arc for each of some numbers f of the state that it leads from.
func (c *literal) add(p, q int, fs []int, in, out int, to place, w api.Weight) {
	for _, f := range fs {
		x := link{place{p, q, f}, to, in, out}
		c.links = append(c.links, x)
		c.weights = append(c.weights, w)
		sum, ok := c.merged[x]
		if !ok {
			sum = semiring.Zero(c.t.Ring)
		}
		c.merged[x] = semiring.Plus(c.t.Ring, sum, w)
		if !c.isZero(w) {
			c.ahead[x.from] = append(c.ahead[x.from], to)
		}
	}
}

// isZero reports whether a weight is Zero.
func (c *literal) isZero(w api.Weight) bool {
	return semiring.Equal(w, semiring.Zero(c.t.Ring))
}

// newLiteral returns the composition of two transducers.
func newLiteral(t *testing.T, x, y api.Trans) *literal {
	t.Helper()
	c := &literal{t: samples.NormalTrans(t, x), u: samples.NormalTrans(t, y), merged: map[link]api.Weight{}, ahead: map[place][]place{}}
	for _, x := range c.t.Arcs {
		for _, y := range c.u.Arcs {
			if x.Out > 0 && x.Out == y.In {
				c.add(x.From, y.From, []int{0, 1, 2}, x.In, y.Out, place{x.To, y.To, 0}, semiring.Times(c.t.Ring, x.Weight, y.Weight))
			}
			if x.Out == 0 && y.In == 0 {
				c.add(x.From, y.From, []int{0}, x.In, y.Out, place{x.To, y.To, 0}, semiring.Times(c.t.Ring, x.Weight, y.Weight))
			}
		}
	}
	for _, x := range c.t.Arcs {
		for q := range c.u.States {
			if x.Out == 0 {
				c.add(x.From, q, []int{0, 1}, x.In, 0, place{x.To, q, 1}, x.Weight)
			}
		}
	}
	for _, y := range c.u.Arcs {
		for p := range c.t.States {
			if y.In == 0 {
				c.add(p, y.From, []int{0, 2}, 0, y.Out, place{p, y.To, 2}, y.Weight)
			}
		}
	}
	return c
}

// initial and final return the weights of a state.
func (c *literal) initial(at place) api.Weight {
	if at.f != 0 {
		return semiring.Zero(c.t.Ring)
	}
	return semiring.Times(c.t.Ring, c.t.Initial[at.p], c.u.Initial[at.q])
}

func (c *literal) final(at place) api.Weight {
	return semiring.Times(c.t.Ring, c.t.Final[at.p], c.u.Final[at.q])
}

// found returns the states in the order in which they are found, however many they are.
func (c *literal) found() []place {
	var out []place
	seen := map[place]bool{}
	for p := range c.t.States {
		for q := range c.u.States {
			for f := range 3 {
				if at := (place{p, q, f}); !c.isZero(c.initial(at)) {
					out, seen[at] = append(out, at), true
				}
			}
		}
	}
	for next := 0; next < len(out); next++ {
		next := out[next]
		reached := map[place]bool{}
		for _, to := range c.ahead[next] {
			reached[to] = true
		}
		var more []place
		for to := range reached {
			if !seen[to] {
				more = append(more, to)
				seen[to] = true
			}
		}
		slices.SortFunc(more, func(x, y place) int {
			return slices.Compare([]int{x.p, x.q, x.f}, []int{y.p, y.q, y.f})
		})
		out = append(out, more...)
	}
	return out
}

// useful returns the states that arcs of the normal form reach from the start, and from which they reach the end.
func (c *literal) useful() map[place]bool {
	front, back := map[place]bool{}, map[place]bool{}
	for p := range c.t.States {
		for q := range c.u.States {
			for f := range 3 {
				at := place{p, q, f}
				front[at], back[at] = !c.isZero(c.initial(at)), !c.isZero(c.final(at))
			}
		}
	}
	for grown := true; grown; {
		grown = false
		for x, w := range c.merged {
			if c.isZero(w) {
				continue
			}
			if front[x.from] && !front[x.to] {
				front[x.to], grown = true, true
			}
			if back[x.to] && !back[x.from] {
				back[x.from], grown = true, true
			}
		}
	}
	out := map[place]bool{}
	for at, ok := range front {
		if ok && back[at] {
			out[at] = true
		}
	}
	return out
}

// result returns what Compose should return, if it is not beyond the limits.
func (c *literal) result() api.Trans {
	out := api.Trans{Ring: c.t.Ring, In: c.t.In, Out: c.u.Out}
	useful, number := c.useful(), map[place]int{}
	for _, at := range c.found() {
		if useful[at] {
			number[at] = out.States
			out.States++
			out.Initial = append(out.Initial, c.initial(at))
			out.Final = append(out.Final, c.final(at))
		}
	}
	for x, w := range c.merged {
		if useful[x.from] && useful[x.to] && !c.isZero(w) {
			out.Arcs = append(out.Arcs, api.TArc{From: number[x.from], In: x.in, Out: x.out, To: number[x.to], Weight: w})
		}
	}
	slices.SortFunc(out.Arcs, func(x, y api.TArc) int {
		return slices.Compare([]int{x.From, x.In, x.Out, x.To}, []int{y.From, y.In, y.Out, y.To})
	})
	return out
}

// expectLiteral checks that Compose does what the sentences say, also if the limits are exceeded, and returns the number of states that it finds and its result, without states where these are exceeded.
func expectLiteral(t *testing.T, what string, x, y api.Trans) (int, api.Trans) {
	t.Helper()
	c := newLiteral(t, x, y)
	found, want := len(c.found()), c.result()
	if found > api.MaxPairs || want.States > api.MaxStates || len(want.Arcs) > api.MaxArcs {
		fail(t, what, x, y, api.ErrLimit)
		return found, api.Trans{}
	}
	expect(t, what, x, y, want)
	return found, want
}

// random returns two transducers with so many states that a choice of numbers makes, of which the second one may read what the first one writes. Their arcs may have empty labels everywhere, also in cycles.
func random(t *testing.T, c samples.Case, choice func(int) int, states int) (x, y api.Trans) {
	t.Helper()
	one := func() api.Trans {
		n := 1 + choice(states)
		out := c.RandomTrans(t, choice, n, choice(5*n))
		for range choice(3) {
			out.Arcs = append(out.Arcs, api.TArc{From: choice(n), To: choice(n), Weight: semiring.One(out.Ring)})
		}
		return out
	}
	return one(), samples.Turned(one())
}
