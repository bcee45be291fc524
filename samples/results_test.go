package samples_test

import (
	"fmt"
	"slices"
	"strings"
	"testing"

	"weighted/api"
	"weighted/samples"
)

func TestResultsOfTransducers(t *testing.T) {
	x := samples.NormalTrans(t, samples.SizedTrans(api.Ring{Kind: api.Sets}, 2, 3))
	samples.ExpectTrans(t, "the result", samples.MustTrans(t, x, api.OK), x)
	samples.FailTrans(t, "the error", api.Trans{}, api.ErrForm, api.ErrForm)
	for what, try := range map[string]func(f *failed){
		"states; 0 1:2 0 ffffffffffffffff, 4": func(f *failed) {
			samples.MustTrans(f, api.Trans{Ring: x.Ring, Arcs: []api.TArc{{In: 1, Out: 2, Weight: x.Initial[0]}}}, api.ErrForm)
		},
		"no normal form": func(f *failed) { samples.MustTrans(f, api.Trans{}, api.OK) },
		"not in normal form": func(f *failed) {
			y := x
			y.Arcs = slices.Clone(x.Arcs)
			slices.Reverse(y.Arcs)
			samples.MustTrans(f, y, api.OK)
		},
		"what: in 0, out 0: ring 0, 0 symbols, 0, not 4": func(f *failed) { samples.FailTrans(f, "what", api.Trans{}, api.OK, api.ErrForm) },
		"what: in 0, out 2: ring 0, 0 symbols, 4, not 4": func(f *failed) {
			samples.FailTrans(f, "what", api.Trans{Out: 2}, api.ErrForm, api.ErrForm)
		},
		"what is in 3, out 0: ring 0, 0 symbols, not in 0, out 0: ring 0, 0 symbols": func(f *failed) {
			samples.ExpectTrans(f, "what", api.Trans{In: 3}, api.Trans{})
		},
	} {
		f := &failed{}
		try(f)
		if !strings.Contains(strings.ReplaceAll(f.message, "0 symbols;", "states;"), what) {
			t.Errorf("%s: %s", what, f.message)
		}
	}
}

func TestOverwriteAll(t *testing.T) {
	for _, c := range samples.Cases() {
		a := samples.Model(t, c.Fill("symbols a;states 1;initial 0 one;final 0 one;arc 0 a 0 one", 0))
		x := samples.Copying(samples.Model(t, c.Fill("symbols a;states 1;initial 0 one;final 0 one;arc 0 a 0 one", 0)))
		// The copies share all memory, so that they show what is overwritten.
		b, y := a, x
		samples.OverwriteAll(a)
		samples.OverwriteTrans(x)
		one := fmt.Sprint(c.Weight(t, c.One))
		for what, w := range map[string]api.Weight{
			"Initial": b.Initial[0], "Final": b.Final[0], "the arc": b.Arcs[0].Weight,
			"Initial of the transducer": y.Initial[0], "Final of the transducer": y.Final[0],
		} {
			// The weights of the arcs stand in the memory of the arcs, and only what they refer to is overwritten.
			if fmt.Sprint(w) == one && (what != "the arc" || len(w.Q.Num)+len(w.Poly)+len(w.Parts) > 0) {
				t.Errorf("%s: %s is still %s", c.Line, what, one)
			}
		}
		if b.Arcs[0].From != 1 || y.Arcs[0].From != 1 || len(b.Ring.Parts) > 0 && b.Ring.Parts[0]+y.Ring.Parts[0] != 2*77 {
			t.Errorf("%s: %v, %v", c.Line, b, y)
		}
	}
}
