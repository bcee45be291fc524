package transducer_test

import (
	"math/rand"
	"slices"
	"strings"
	"testing"

	"weighted/api"
	"weighted/samples"
	"weighted/semiring"
	"weighted/transducer"
)

// withArcs reads a transducer with arcs that are separated by commas.
func withArcs(t *testing.T, line, arcs string) api.Trans {
	t.Helper()
	text := line + ";in 2;out 3;states 3"
	for _, arc := range strings.Split(arcs, ",") {
		if arc != "" {
			text += ";arc " + arc
		}
	}
	return samples.Trans(t, text)
}

func TestArcsThatBecomeOne(t *testing.T) {
	const rational, tropical, both = "ring rational", "ring tropical", "ring product rational tropical"
	for _, x := range [][3]string{
		{rational, "", ""},
		{rational, "0 2 3 1 1/2,0 2 3 1 -1/2", ""},
		{rational, "0 2 3 1 1/2,0 2 3 1 1/3", "0 2 3 1 5/6"},
		{rational, "0 2 3 1 0", ""},
		{rational, "0 2 3 1 0,0 2 3 1 0", ""},
		{rational, "0 0 0 1 1/2,0 0 0 1 1/2", "0 0 0 1 1"},
		{rational, "1 1 1 1 1,1 1 1 1 1,1 1 1 1 -2", ""},
		{rational, "1 1 1 1 1,1 1 1 1 2,1 1 1 1 3,1 1 1 1 4,1 1 1 1 5", "1 1 1 1 15"},
		// Arcs that differ in one of the four.
		{rational, "1 1 1 1 1,0 1 1 1 -1", "0 1 1 1 -1,1 1 1 1 1"},
		{rational, "1 1 1 1 1,1 0 1 1 -1", "1 0 1 1 -1,1 1 1 1 1"},
		{rational, "1 1 1 1 1,1 1 0 1 -1", "1 1 0 1 -1,1 1 1 1 1"},
		{rational, "1 1 1 1 1,1 1 1 0 -1", "1 1 1 0 -1,1 1 1 1 1"},
		{rational, "0 1 2 0 1,0 2 1 0 -1", "0 1 2 0 1,0 2 1 0 -1"},
		// The order is by From, In, Out and To.
		{rational, "1 0 0 0 1,0 1 0 0 2,0 0 1 0 3,0 0 0 1 4,0 0 0 0 5", "0 0 0 0 5,0 0 0 1 4,0 0 1 0 3,0 1 0 0 2,1 0 0 0 1"},
		{rational, "2 0 0 0 1,1 2 3 2 2,1 2 3 1 3,1 2 2 2 4,1 1 3 2 5,0 2 3 2 6", "0 2 3 2 6,1 1 3 2 5,1 2 2 2 4,1 2 3 1 3,1 2 3 2 2,2 0 0 0 1"},
		{rational, "1 2 0 0 1,0 2 3 1 7,0 2 3 1 -7", "1 2 0 0 1"},
		{tropical, "0 2 3 1 5,1 2 3 1 inf,0 2 3 1 3", "0 2 3 1 3"},
		{tropical, "0 2 3 1 inf,0 2 3 1 inf,0 2 3 1 1099511627776", "0 2 3 1 1099511627776"},
		{both, "0 2 3 1 1/2|inf,0 2 3 1 -1/2|inf", ""},
		{both, "0 2 3 1 1/2|5,0 2 3 1 -1/2|3", "0 2 3 1 0|3"},
	} {
		given, want := withArcs(t, x[0], x[1]), withArcs(t, x[0], x[2])
		expectNormal(t, x[1], given, want)
		slices.Reverse(given.Arcs)
		expectNormal(t, "reverse of "+x[1], given, want)
	}
}

func TestNormalOfAllRings(t *testing.T) {
	for _, c := range samples.Cases() {
		x := samples.Trans(t, c.Fill("in 2;out 1;states 2;initial 0 w1;final 1 w2;arc 1 2 1 0 w0;gone 0 0 0 0;arc 0 2 1 1 one;gone 0 1 0 1;arc 0 2 1 1 zero;arc 0 0 1 1 zero", 0))
		want := samples.Trans(t, c.Fill("in 2;out 1;states 2;initial 0 w1;final 1 w2;arc 0 2 1 1 one;arc 1 2 1 0 w0", 0))
		expectNormal(t, c.Line, x, want)
	}
}

func TestNormalOfRandomTransducers(t *testing.T) {
	source := rand.New(rand.NewSource(1))
	for _, c := range samples.Cases() {
		for round := range 40 {
			x := c.RandomTrans(t, source.Intn, 1+source.Intn(4), source.Intn(3*round+2))
			want := merge(x)
			expectNormal(t, c.Line, x, want)
			expectNormal(t, c.Line+", shuffled", samples.ShuffledTrans(source.Intn, x), want)
			// The labels of both sides are treated alike.
			turned := samples.NormalTrans(t, samples.Turned(x))
			expectNormal(t, c.Line+", turned", samples.Turned(turned), want)
		}
	}
}

func TestNormalOfAllArcsOfAFewStates(t *testing.T) {
	source := rand.New(rand.NewSource(2))
	for _, c := range samples.Cases() {
		want := samples.Trans(t, c.Fill("in 2;out 3;states 3;initial 1 one", 0))
		for from := range 3 {
			for in := range 3 {
				for out := range 4 {
					for to := range 3 {
						want.Arcs = append(want.Arcs, api.TArc{From: from, In: in, Out: out, To: to, Weight: semiring.One(want.Ring)})
					}
				}
			}
		}
		for range 10 {
			expectNormal(t, c.Line, samples.ShuffledTrans(source.Intn, want), want)
		}
	}
}

func TestNormalKeepsAllElse(t *testing.T) {
	for _, c := range samples.Cases() {
		weights := c.Weights(t)
		for states := range api.MaxStates + 1 {
			x := api.Trans{Ring: c.Ring(t), In: 1 + states%api.MaxSymbols, Out: api.MaxSymbols - states%api.MaxSymbols, States: states}
			for i := range states {
				x.Initial = append(x.Initial, weights[i%len(weights)])
				x.Final = append(x.Final, weights[(i+3)%len(weights)])
			}
			expectNormal(t, c.Line, x, x)
		}
	}
}

func TestSame(t *testing.T) {
	for _, c := range samples.Cases() {
		text := c.Fill("in 2;out 3;states 2;initial 0 one;final 1 w1;arc 0 1 3 1 w0;arc 1 2 0 0 w2", 0)
		x := samples.Trans(t, text)
		one, zero := semiring.One(x.Ring), semiring.Zero(x.Ring)
		if !transducer.Same(x, samples.Trans(t, text)) || !transducer.Same(x, x) {
			t.Fatalf("%s: not the same as itself", c.Line)
		}
		for what, change := range map[string]func(x *api.Trans){
			"Kind":                    func(x *api.Trans) { x.Ring.Kind++ },
			"another part":            func(x *api.Trans) { x.Ring.Parts = append(slices.Clone(x.Ring.Parts), 1) },
			"In":                      func(x *api.Trans) { x.In = 3 },
			"Out":                     func(x *api.Trans) { x.Out = 2 },
			"In and Out":              func(x *api.Trans) { x.In, x.Out = x.Out, x.In },
			"States":                  func(x *api.Trans) { x.States = 3 },
			"Initial":                 func(x *api.Trans) { x.Initial = []api.Weight{one, one} },
			"no Initial":              func(x *api.Trans) { x.Initial = nil },
			"more Initial":            func(x *api.Trans) { x.Initial = append(x.Initial, zero) },
			"Final":                   func(x *api.Trans) { x.Final = []api.Weight{zero, zero} },
			"less Final":              func(x *api.Trans) { x.Final = x.Final[:1] },
			"no arcs":                 func(x *api.Trans) { x.Arcs = nil },
			"an arc less":             func(x *api.Trans) { x.Arcs = x.Arcs[:1] },
			"an arc more":             func(x *api.Trans) { x.Arcs = append(x.Arcs, x.Arcs[1]) },
			"the order":               func(x *api.Trans) { slices.Reverse(x.Arcs) },
			"From":                    func(x *api.Trans) { x.Arcs[0].From = 1 },
			"an input":                func(x *api.Trans) { x.Arcs[0].In = 0 },
			"an output":               func(x *api.Trans) { x.Arcs[0].Out = 1 },
			"both labels":             func(x *api.Trans) { x.Arcs[0].In, x.Arcs[0].Out = x.Arcs[0].Out, x.Arcs[0].In },
			"To":                      func(x *api.Trans) { x.Arcs[1].To = 1 },
			"a weight":                func(x *api.Trans) { x.Arcs[1].Weight = zero },
			"a weight that is none":   func(x *api.Trans) { x.Arcs[1].Weight.Set++ },
			"a weight of other limbs": func(x *api.Trans) { x.Final[1].Q.Num = append(slices.Clone(x.Final[1].Q.Num), 0) },
		} {
			y := samples.Trans(t, text)
			change(&y)
			if transducer.Same(x, y) || transducer.Same(y, x) {
				t.Fatalf("%s: %s makes no difference", c.Line, what)
			}
			if !transducer.Same(y, y) {
				t.Fatalf("%s: %s: not the same as itself", c.Line, what)
			}
		}
	}
}

func TestSameOfNilAndEmpty(t *testing.T) {
	empty := api.Trans{Ring: api.Ring{Parts: []int{}}, Initial: []api.Weight{}, Final: []api.Weight{}, Arcs: []api.TArc{}}
	if !transducer.Same(empty, api.Trans{}) || !transducer.Same(api.Trans{}, empty) {
		t.Error("nil is not empty")
	}
	blank := api.Weight{Q: api.Rat{Num: []uint32{}, Den: []uint32{}}, Poly: []api.Monomial{}, Parts: []api.Weight{}}
	x, y := api.Trans{Arcs: []api.TArc{{Weight: blank}}}, api.Trans{Arcs: []api.TArc{{}}}
	if !transducer.Same(x, y) || !transducer.Same(y, x) {
		t.Error("nil is not empty in a weight")
	}
}
