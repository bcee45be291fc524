package compose_test

import (
	"testing"

	"weighted/api"
	"weighted/compose"
	"weighted/samples"
	"weighted/semiring"
)

// composed returns the composition of transducers that have one, after it has checked that it is in normal form.
func composed(t *testing.T, x, y api.Trans) api.Trans {
	t.Helper()
	out, e := compose.Compose(x, y)
	if e != api.OK {
		t.Fatalf("%v: %s and %s", e, samples.ShownTrans(x), samples.ShownTrans(y))
	}
	samples.MustTrans(t, out, e)
	if !semiring.Same(out.Ring, x.Ring) || out.In != x.In || out.Out != y.Out {
		t.Fatalf("%s is no composition of %s and %s", samples.ShownTrans(out), samples.ShownTrans(x), samples.ShownTrans(y))
	}
	return out
}

// expect checks the composition of two transducers.
func expect(t *testing.T, what string, x, y, want api.Trans) {
	t.Helper()
	if got := composed(t, x, y); !samples.SameTrans(got, want) {
		t.Fatalf("%s: the composition of %s and %s is %s, not %s", what, samples.ShownTrans(x), samples.ShownTrans(y), samples.ShownTrans(got), samples.ShownTrans(want))
	}
}

// fail checks that two transducers have no composition.
func fail(t *testing.T, what string, x, y api.Trans, want api.Errno) {
	t.Helper()
	out, e := compose.Compose(x, y)
	samples.FailTrans(t, what, out, e, want)
}
