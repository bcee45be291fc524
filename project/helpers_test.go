package project_test

import (
	"slices"
	"strconv"
	"testing"

	"weighted/api"
	"weighted/project"
	"weighted/samples"
	"weighted/semiring"
)

// input returns the Input of a transducer that is valid.
func input(t *testing.T, x api.Trans) api.Auto {
	t.Helper()
	out, e := project.Input(x)
	return samples.Must(t, out, e)
}

// output returns the Output of a transducer that is valid.
func output(t *testing.T, x api.Trans) api.Auto {
	t.Helper()
	out, e := project.Output(x)
	return samples.Must(t, out, e)
}

// invert returns the Invert of a transducer that is valid.
func invert(t *testing.T, x api.Trans) api.Trans {
	t.Helper()
	out, e := project.Invert(x)
	return samples.MustTrans(t, out, e)
}

// identity returns the Identity of an automaton that is valid.
func identity(t *testing.T, a api.Auto) api.Trans {
	t.Helper()
	out, e := project.Identity(a)
	return samples.MustTrans(t, out, e)
}

// applied returns the Apply of a transducer and a word that have one.
func applied(t *testing.T, x api.Trans, word []int) api.Auto {
	t.Helper()
	out, e := project.Apply(x, word)
	if e != api.OK {
		t.Fatalf("%v: %v and %s", e, word, samples.ShownTrans(x))
	}
	return samples.Must(t, out, e)
}

// failApply checks that Apply answers an error.
func failApply(t *testing.T, what string, x api.Trans, word []int, want api.Errno) {
	t.Helper()
	out, e := project.Apply(x, word)
	samples.Fail(t, what+", "+strconv.Itoa(len(word))+" symbols", out, e, want)
}

// side returns the projection of a transducer to one side as the chapter says it: the weight of each arc is the sum of those of all arcs that have its ends and, on this side, its label.
func side(x api.Trans, symbols int, label func(x api.TArc) int) api.Auto {
	out := api.Auto{Ring: x.Ring, Symbols: symbols, States: x.States, Initial: x.Initial, Final: x.Final}
	zero, sums := semiring.Zero(x.Ring), map[[3]int]api.Weight{}
	for _, arc := range x.Arcs {
		at := [3]int{arc.From, label(arc), arc.To}
		sum, ok := sums[at]
		if !ok {
			sum = zero
		}
		sums[at] = semiring.Plus(x.Ring, sum, arc.Weight)
	}
	for at, sum := range sums {
		if !semiring.Equal(sum, zero) {
			out.Arcs = append(out.Arcs, api.Arc{From: at[0], Label: at[1], To: at[2], Weight: sum})
		}
	}
	slices.SortFunc(out.Arcs, func(x, y api.Arc) int {
		return slices.Compare([]int{x.From, x.Label, x.To}, []int{y.From, y.Label, y.To})
	})
	return out
}

// inSide and outSide return the projections to each side.
func inSide(x api.Trans) api.Auto {
	return side(x, x.In, func(x api.TArc) int { return x.In })
}

func outSide(x api.Trans) api.Auto {
	return side(x, x.Out, func(x api.TArc) int { return x.Out })
}

// expectSides checks the projections of a transducer, and of it turned.
func expectSides(t *testing.T, what string, x api.Trans) {
	t.Helper()
	samples.Expect(t, what+": Input", input(t, x), inSide(x))
	samples.Expect(t, what+": Output", output(t, x), outSide(x))
	turned := samples.Turned(x)
	samples.Expect(t, what+": Input of it turned", input(t, turned), outSide(x))
	samples.Expect(t, what+": Output of it turned", output(t, turned), inSide(x))
}

// blank returns a transducer without arcs, with so many states that have various weights.
func blank(t *testing.T, c samples.Case, in, out, states int) api.Trans {
	t.Helper()
	x, weights := api.Trans{Ring: c.Ring(t), In: in, Out: out, States: states}, c.Weights(t)
	for i := range states {
		x.Initial = append(x.Initial, weights[i%len(weights)])
		x.Final = append(x.Final, weights[(i+3)%len(weights)])
	}
	return x
}
