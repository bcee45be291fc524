package transducer_test

import (
	"math"
	"slices"
	"testing"

	"weighted/api"
	"weighted/samples"
	"weighted/semiring"
	"weighted/transducer"
)

// checkInvalid checks what all functions answer for a transducer that is not valid.
func checkInvalid(t *testing.T, what string, x api.Trans) {
	t.Helper()
	if transducer.Valid(x) || transducer.Loops(x) {
		t.Fatalf("%s: Valid is %v, Loops is %v", what, transducer.Valid(x), transducer.Loops(x))
	}
	if n, e := transducer.Normal(x); e != api.ErrForm || !samples.SameTrans(n, api.Trans{}) {
		t.Fatalf("%s: %s, %v", what, samples.ShownTrans(n), e)
	}
	long := make([]int, api.MaxWord+1)
	for _, words := range [][2][]int{{nil, nil}, {{1}, {1}}, {{0}, nil}, {nil, {-1}}, {{33}, long}, {long, long}} {
		fail(t, what, x, words[0], words[1], api.ErrForm)
	}
}

func TestWhatIsNotValid(t *testing.T) {
	for _, c := range samples.Cases() {
		for what, x := range c.InvalidTrans(t) {
			checkInvalid(t, c.Line+": "+what, x)
			// A cycle of empty labels does not make up for it.
			x.Arcs = append([]api.TArc{{Weight: semiring.One(c.Ring(t))}}, x.Arcs...)
			checkInvalid(t, c.Line+": with a cycle, "+what, x)
		}
	}
}

func TestNumbersThatAreOutOfRange(t *testing.T) {
	for _, c := range samples.Cases() {
		good := samples.Trans(t, c.Fill("in 2;out 3;states 4;initial 0 one;final 3 w1;arc 0 0 0 1 w0;arc 1 2 0 2 w2;arc 2 0 3 3 w3;arc 3 1 1 0 one", 0))
		if !transducer.Valid(good) {
			t.Fatalf("%s is not valid", samples.ShownTrans(good))
		}
		for _, n := range []int{-1, -2, math.MinInt, math.MaxInt, 1 << 32, 1<<32 + 1, 65, 33} {
			for what, change := range map[string]func(x *api.Trans){
				"In":     func(x *api.Trans) { x.In = n },
				"Out":    func(x *api.Trans) { x.Out = n },
				"States": func(x *api.Trans) { x.States = n },
				"Kind":   func(x *api.Trans) { x.Ring.Kind = n },
			} {
				x := good
				change(&x)
				checkInvalid(t, c.Line+": "+what, x)
			}
			for i := range good.Arcs {
				for what, change := range map[string]func(x *api.TArc){
					"From":     func(x *api.TArc) { x.From = n },
					"an input": func(x *api.TArc) { x.In = n },
					"output":   func(x *api.TArc) { x.Out = n },
					"To":       func(x *api.TArc) { x.To = n },
				} {
					x := good
					x.Arcs = slices.Clone(good.Arcs)
					change(&x.Arcs[i])
					checkInvalid(t, c.Line+": "+what, x)
				}
			}
		}
	}
}

func TestLabelsAndStatesAtTheirBounds(t *testing.T) {
	for _, c := range samples.Cases() {
		r := c.Ring(t)
		for in := range api.MaxSymbols + 2 {
			for out := range api.MaxSymbols + 2 {
				x := samples.Trans(t, c.Fill("in 1;out 1;states 2;arc 0 0 0 0 one", 0))
				x.In, x.Out = in, out
				isIn, isOut := in >= 1 && in <= api.MaxSymbols, out >= 1 && out <= api.MaxSymbols
				if transducer.Valid(x) != (isIn && isOut) {
					t.Fatalf("%s: %d and %d symbols: %v", c.Line, in, out, transducer.Valid(x))
				}
				for _, y := range []api.TArc{{In: in, Out: out}, {In: in, Out: out, From: 1, To: 1}, {In: in + 1}, {Out: out + 1}, {In: in, Out: out, To: 2}, {In: in, Out: out, From: 2}} {
					y.Weight = semiring.One(r)
					x.Arcs = []api.TArc{y}
					want := isIn && isOut && y.In <= in && y.Out <= out && y.From < 2 && y.To < 2
					if transducer.Valid(x) != want {
						t.Fatalf("%s: not %v: %s", c.Line, want, samples.ShownTrans(x))
					}
				}
			}
		}
	}
}

func TestJustValid(t *testing.T) {
	for _, c := range samples.Cases() {
		r := c.Ring(t)
		none := api.Trans{Ring: r, In: api.MaxSymbols, Out: api.MaxSymbols}
		expectNormal(t, c.Line, none, none)
		fewest := api.Trans{Ring: r, In: 1, Out: 1}
		expectNormal(t, c.Line, fewest, fewest)
		samples.ExpectPair(t, c.Line, none, []int{32}, []int{32}, semiring.Zero(r))
		samples.ExpectPair(t, c.Line, none, nil, nil, semiring.Zero(r))
		x := samples.SizedTrans(r, api.MaxStates, api.MaxArcs)
		expectNormal(t, c.Line, x, samples.NormalTrans(t, x))
		if n := samples.NormalTrans(t, x); len(n.Arcs) != api.MaxArcs || n.States != api.MaxStates || n.In != 32 || n.Out != 32 {
			t.Fatalf("%s: %s", c.Line, samples.ShownTrans(n))
		}
		checkInvalid(t, c.Line+": too many states", samples.SizedTrans(r, api.MaxStates+1, 0))
		checkInvalid(t, c.Line+": too many arcs", samples.SizedTrans(r, api.MaxStates, api.MaxArcs+1))
		equal := x
		equal.Arcs = slices.Repeat(x.Arcs[:1], api.MaxArcs)
		if n := samples.NormalTrans(t, equal); len(n.Arcs) != 1 {
			t.Fatalf("%s: %s", c.Line, samples.ShownTrans(n))
		}
		equal.Arcs = slices.Repeat(x.Arcs[:1], api.MaxArcs+1)
		checkInvalid(t, c.Line+": too many equal arcs", equal)
	}
}

func TestAllWeightsOfARing(t *testing.T) {
	for _, c := range samples.Cases() {
		for _, w := range c.Weights(t) {
			for _, change := range []func(x *api.Trans){
				func(x *api.Trans) { x.Initial[1] = w },
				func(x *api.Trans) { x.Final[0] = w },
				func(x *api.Trans) { x.Arcs[0].Weight = w },
			} {
				x := samples.Trans(t, c.Fill("in 1;out 2;states 2;arc 0 1 2 1 one", 0))
				change(&x)
				if !transducer.Valid(x) {
					t.Fatalf("%s: %s is not valid", c.Line, samples.ShownTrans(x))
				}
			}
		}
	}
}
