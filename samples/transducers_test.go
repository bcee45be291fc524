package samples_test

import (
	"fmt"
	"math/rand"
	"slices"
	"strings"
	"testing"

	"weighted/api"
	"weighted/samples"
	"weighted/transducer"
)

const pairText = "ring product rational tropical;in 2;out 3;states 2;initial 0 1|2;final 1 2|3;arc 0 1 3 1 3|4;arc 1 2 0 0 1|inf"

func TestTrans(t *testing.T) {
	x := samples.Trans(t, pairText)
	if got := samples.ShownTrans(x); got != "in 2, out 3: ring 6 1 2, 2 symbols; 0: 1|2, 0|inf; 1: 0|inf, 2|3; 0 1:3 1 3|4; 1 2:0 0 1|inf" {
		t.Error(got)
	}
	if got := samples.ShownTrans(samples.Turned(x)); got != "in 3, out 2: ring 6 1 2, 2 symbols; 0: 1|2, 0|inf; 1: 0|inf, 2|3; 0 3:1 1 3|4; 1 0:2 0 1|inf" {
		t.Error(got)
	}
	if !samples.SameTrans(x, samples.Turned(samples.Turned(x))) {
		t.Error("turned twice")
	}
	a := samples.Model(t, "ring sets;symbols a b;states 1;arc 0 b 0 0000000000000001")
	if got := samples.ShownTrans(samples.Copying(a)); got != "in 2, out 2: ring 4, 1 symbols; 0: 0000000000000000, 0000000000000000; 0 2:2 0 0000000000000001" {
		t.Error(got)
	}
	if got := samples.ShownTrans(samples.Reading(a, 5)); got != "in 2, out 5: ring 4, 1 symbols; 0: 0000000000000000, 0000000000000000; 0 2:0 0 0000000000000001" {
		t.Error(got)
	}
}

func TestSameTrans(t *testing.T) {
	x := samples.Trans(t, pairText)
	if !samples.SameTrans(x, samples.Trans(t, pairText)) || !samples.SameTrans(api.Trans{}, api.Trans{Arcs: []api.TArc{}}) {
		t.Error("equal transducers")
	}
	for _, change := range []func(x *api.Trans){
		func(x *api.Trans) { x.Ring.Kind = 1 },
		func(x *api.Trans) { x.In++ },
		func(x *api.Trans) { x.Out++ },
		func(x *api.Trans) { x.States++ },
		func(x *api.Trans) { x.Initial = nil },
		func(x *api.Trans) { x.Final = nil },
		func(x *api.Trans) { x.Arcs = x.Arcs[:1] },
		func(x *api.Trans) { x.Arcs[0].From = 1 },
		func(x *api.Trans) { x.Arcs[0].In = 2 },
		func(x *api.Trans) { x.Arcs[0].Out = 2 },
		func(x *api.Trans) { x.Arcs[0].To = 0 },
		func(x *api.Trans) { x.Arcs[0].Weight = x.Final[1] },
	} {
		y := samples.Trans(t, pairText)
		change(&y)
		if samples.SameTrans(x, y) || samples.SameTrans(y, x) {
			t.Errorf("%s and %s", samples.ShownTrans(x), samples.ShownTrans(y))
		}
	}
}

func TestTransducersThatAreNotValid(t *testing.T) {
	for _, c := range samples.Cases() {
		for what, x := range c.InvalidTrans(t) {
			if transducer.Valid(x) {
				t.Errorf("%s: %s: %s is valid", c.Line, what, samples.ShownTrans(x))
			}
		}
	}
}

func TestRandomTrans(t *testing.T) {
	source := rand.New(rand.NewSource(3))
	for _, c := range samples.Cases() {
		seen := map[string]bool{}
		for range 50 {
			x := c.RandomTrans(t, source.Intn, 3, 30)
			n, e := transducer.Normal(x)
			if e != api.OK || transducer.Loops(x) || len(n.Arcs) < 5 {
				t.Errorf("%s: %s", c.Line, samples.ShownTrans(x))
			}
			isSilent := func(x api.TArc) bool { return x.In == 0 && x.Out == 0 }
			seen[fmt.Sprint(slices.ContainsFunc(n.Arcs, isSilent))] = true
			seen[samples.ShownTrans(samples.ShuffledTrans(source.Intn, x))] = true
		}
		if len(seen) != 52 {
			t.Errorf("%s: %d transducers", c.Line, len(seen))
		}
		if x := c.RandomTrans(t, source.Intn, 0, 0); x.States != 0 {
			t.Errorf("%s: %s", c.Line, samples.ShownTrans(x))
		}
	}
}

func TestSizedTrans(t *testing.T) {
	x := samples.SizedTrans(api.Ring{Kind: api.Sets}, 8, api.MaxArcs)
	n := samples.NormalTrans(t, x)
	if len(n.Arcs) != api.MaxArcs || n.States != 8 || n.In != api.MaxSymbols || n.Out != api.MaxSymbols {
		t.Error(samples.ShownTrans(n))
	}
}

func TestUpward(t *testing.T) {
	source := rand.New(rand.NewSource(5))
	for _, c := range samples.Cases() {
		seen := map[string]bool{}
		for range 50 {
			x := c.Upward(t, source.Intn, 1, 2, 4, []string{"one", "w0", "w1"})
			if x.In != 1 || x.Out != 2 || x.States != 4 || !transducer.Valid(x) {
				t.Errorf("%s: %s", c.Line, samples.ShownTrans(x))
			}
			for _, y := range x.Arcs {
				seen[fmt.Sprint(y.In == 0, y.Out == 0)] = true
				if y.In*y.Out == 0 && y.From >= y.To {
					t.Errorf("%s: %s", c.Line, samples.ShownTrans(x))
				}
			}
		}
		if len(seen) != 4 {
			t.Errorf("%s: %v", c.Line, seen)
		}
	}
}

func TestOutputs(t *testing.T) {
	x := samples.Trans(t, "ring rational;in 2;out 3;states 3;arc 0 1 2 1 1;arc 1 0 3 2 1;arc 2 1 0 0 1;arc 0 2 1 0 0")
	for _, v := range []struct {
		word []int
		want string
	}{
		{nil, "[[] [3]]"},
		{[]int{1}, "[[2] [2 3] [3] []]"},
		{[]int{2}, "[[1]]"},
		{[]int{2, 1}, "[[1 2] [1 2 3]]"},
		{[]int{2, 1, 1}, "[[1 2 3]]"},
		{[]int{1, 1, 2}, "[[2 3 1]]"},
		{[]int{3}, "[]"},
	} {
		if got := fmt.Sprint(samples.Outputs(x, v.word)); got != v.want {
			t.Errorf("%v: %s, not %s", v.word, got, v.want)
		}
	}
}

func TestTextsOfTransducersThatAreWrong(t *testing.T) {
	for text, want := range map[string]string{
		"ring sets;in x;out 1;states 1":                     "no number: x",
		"ring sets;in 1;out 1;states x":                     "line 3",
		"ring sets;in 1;out 1;states 1;arc 0 0 0 0 1|2":     "no weight: 1|2",
		"ring rational;in 1;out 1;states 1;arc 0 a 0 0 1/2": "no number: a",
	} {
		f := &failed{}
		samples.Trans(f, text)
		if !strings.Contains(f.message, want) {
			t.Errorf("%s: %s", text, f.message)
		}
	}
}

func TestPairs(t *testing.T) {
	x := samples.Trans(t, "ring rational;in 2;out 1;states 1;initial 0 1;final 0 1;arc 0 1 0 0 1/2;arc 0 2 1 0 1;arc 0 1 1 0 0")
	seen := ""
	samples.Pairs(t, x, 1, func(in, out []int) { seen += fmt.Sprint(in, out) })
	if seen != "[] [][] [1][1] [][1] [1][2] [][2] [1]" {
		t.Error(seen)
	}
	samples.ExpectPair(t, "a pair", x, []int{1, 2}, []int{1}, samples.NormalTrans(t, x).Arcs[0].Weight)
	if w := samples.PairWeight(t, x, nil, nil); w.Q.Num[0] != 1 {
		t.Error(w)
	}
}

func TestOverwrite(t *testing.T) {
	for _, c := range samples.Cases() {
		for _, text := range c.Others {
			w := c.Weight(t, text)
			before := fmt.Sprint(w)
			// A cost and a set are no memory that a weight refers to.
			refers := len(w.Q.Num)+len(w.Poly)+len(w.Parts) > 0
			samples.Overwrite(&w)
			if (fmt.Sprint(w) != before) != refers {
				t.Errorf("%s: %s became %v", c.Line, before, w)
			}
		}
	}
}
