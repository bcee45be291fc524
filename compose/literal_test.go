package compose_test

import (
	"math/rand"
	"slices"
	"testing"

	"weighted/api"
	"weighted/samples"
)

func TestRandomCompositions(t *testing.T) {
	source := rand.New(rand.NewSource(1))
	for _, c := range samples.Cases() {
		states, left, empty := 0, 0, 0
		for range 100 {
			x, y := random(t, c, source.Intn, 3)
			found, out := expectLiteral(t, c.Line, x, y)
			expectLiteral(t, c.Line+", turned", samples.Turned(y), samples.Turned(x))
			expect(t, c.Line+", shuffled", samples.ShuffledTrans(source.Intn, x), samples.ShuffledTrans(source.Intn, y), out)
			states += out.States
			left += min(found-out.States, 1)
			empty += max(1-out.States, 0)
		}
		if states < 200 || left < 20 || empty < 10 || empty > 70 {
			t.Errorf("%s: %d states, %d compositions with others that are not useful, %d empty ones", c.Line, states, left, empty)
		}
	}
}

func TestLargerRandomCompositions(t *testing.T) {
	source := rand.New(rand.NewSource(2))
	large, beyond := 0, 0
	for _, c := range samples.Cases() {
		for range 15 {
			x, y := random(t, c, source.Intn, 12)
			_, out := expectLiteral(t, c.Line, x, y)
			if out.In == 0 {
				beyond++
			} else if out.States > 25 {
				large++
			}
		}
	}
	if large < 20 || beyond < 10 {
		t.Errorf("%d large compositions, %d beyond the limits", large, beyond)
	}
}

// cancellingTrans returns a transducer in normal form over one and two symbols, in which two arcs with different labels Out lead from most states to few others.
func cancellingTrans(t *testing.T, c samples.Case, choice func(int) int) api.Trans {
	t.Helper()
	weights := c.Weights(t)
	n := 2 + choice(3)
	x := api.Trans{Ring: c.Ring(t), In: 1, Out: 2, States: n}
	x.Initial, x.Final = slices.Repeat(weights[:1], n), slices.Repeat(weights[1:2], n)
	x.Initial[0] = weights[1]
	if choice(2) == 0 {
		// With few ends, states may reach them by arcs alone whose sum is Zero.
		x.Final = slices.Repeat(weights[:1], n)
		x.Final[choice(n)] = weights[1]
	}
	for from := range n {
		for range 2 {
			in, out, to := choice(2), choice(4)/3, choice(n)
			for _, label := range []int{1 - out, 2 - out} {
				x.Arcs = append(x.Arcs, api.TArc{From: from, In: in, Out: label, To: to, Weight: weights[2+choice(len(weights)-2)]})
			}
		}
	}
	return samples.NormalTrans(t, x)
}

func TestSumsThatAreZero(t *testing.T) {
	source := rand.New(rand.NewSource(3))
	for _, c := range samples.Cancelling() {
		one := func() api.Trans { return cancellingTrans(t, c, source.Intn) }
		lost, less, other := 0, 0, 0
		for range 80 {
			x, y := one(), samples.Turned(one())
			found, out := expectLiteral(t, c.Line, x, y)
			l := newLiteral(t, x, y)
			for _, w := range l.merged {
				if l.isZero(w) {
					lost++
				}
			}
			// The states that would be found if only arcs of the normal form led to others.
			strict := newLiteral(t, x, y)
			strict.ahead = map[place][]place{}
			for x, w := range strict.merged {
				if !l.isZero(w) {
					strict.ahead[x.from] = append(strict.ahead[x.from], x.to)
				}
			}
			if n := len(strict.found()); n < found {
				less++
			}
			if !samples.SameTrans(strict.result(), out) {
				other++
			}
		}
		if lost < 50 || less < 2 || other < 2 {
			t.Errorf("%s: %d sums are Zero, which lead to more states in %d compositions, and in another order in %d", c.Line, lost, less, other)
		}
	}
}

func TestCompositionWithItself(t *testing.T) {
	source := rand.New(rand.NewSource(4))
	for _, c := range samples.Cases() {
		for range 30 {
			x, _ := random(t, c, source.Intn, 3)
			// With as many symbols on both sides.
			x.In = x.Out
			before := samples.ShownTrans(x)
			kept := x
			kept.Arcs = slices.Clone(x.Arcs)
			expectLiteral(t, c.Line, x, x)
			if !samples.SameTrans(x, kept) || samples.ShownTrans(x) != before {
				t.Fatalf("%s: %s became %s", c.Line, before, samples.ShownTrans(x))
			}
		}
	}
}
