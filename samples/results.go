package samples

import (
	"weighted/api"
	"weighted/automaton"
)

// Must returns a result without error, after it has checked that it is in normal form.
func Must(t Test, a api.Auto, e api.Errno) api.Auto {
	t.Helper()
	if e != api.OK || !automaton.Valid(a) {
		t.Fatalf("%s, %v", Shown(a), e)
	}
	if !Same(a, Normal(t, a)) {
		t.Fatalf("not in normal form: %s", Shown(a))
	}
	return a
}

// Fail checks that a result is an error, and nothing else.
func Fail(t Test, what string, a api.Auto, e, want api.Errno) {
	t.Helper()
	if e != want || !Same(a, api.Auto{}) {
		t.Fatalf("%s: %s, %v, not %v", what, Shown(a), e, want)
	}
}

// Expect checks that a result has the fields that are expected.
func Expect(t Test, what string, got, want api.Auto) {
	t.Helper()
	if !Same(got, want) {
		t.Fatalf("%s is %s, not %s", what, Shown(got), Shown(want))
	}
}

// MustTrans returns a result without error, after it has checked that it is in normal form.
func MustTrans(t Test, x api.Trans, e api.Errno) api.Trans {
	t.Helper()
	if e != api.OK {
		t.Fatalf("%s, %v", ShownTrans(x), e)
	}
	if !SameTrans(x, NormalTrans(t, x)) {
		t.Fatalf("not in normal form: %s", ShownTrans(x))
	}
	return x
}

// FailTrans checks that a result is an error, and nothing else.
func FailTrans(t Test, what string, x api.Trans, e, want api.Errno) {
	t.Helper()
	if e != want || !SameTrans(x, api.Trans{}) {
		t.Fatalf("%s: %s, %v, not %v", what, ShownTrans(x), e, want)
	}
}

// ExpectTrans checks that a result has the fields that are expected.
func ExpectTrans(t Test, what string, got, want api.Trans) {
	t.Helper()
	if !SameTrans(got, want) {
		t.Fatalf("%s is %s, not %s", what, ShownTrans(got), ShownTrans(want))
	}
}

// OverwriteAll changes all memory that an automaton refers to.
func OverwriteAll(a api.Auto) {
	for i := range a.Ring.Parts {
		a.Ring.Parts[i] = 77
	}
	for _, weights := range [][]api.Weight{a.Initial, a.Final} {
		for i := range weights {
			Overwrite(&weights[i])
			weights[i].Set++
		}
	}
	for i := range a.Arcs {
		Overwrite(&a.Arcs[i].Weight)
		a.Arcs[i].From++
	}
}

// OverwriteTrans changes all memory that a transducer refers to.
func OverwriteTrans(x api.Trans) {
	OverwriteAll(api.Auto{Ring: x.Ring, Initial: x.Initial, Final: x.Final})
	for i := range x.Arcs {
		Overwrite(&x.Arcs[i].Weight)
		x.Arcs[i].From++
	}
}

// Overwrite changes all memory that a weight refers to.
func Overwrite(w *api.Weight) {
	for _, limbs := range [][]uint32{w.Q.Num, w.Q.Den} {
		for i := range limbs {
			limbs[i] = 77
		}
	}
	for i := range w.Poly {
		w.Poly[i].Exps[0]++
		Overwrite(&api.Weight{Q: w.Poly[i].Coef})
	}
	for i := range w.Parts {
		Overwrite(&w.Parts[i])
		w.Parts[i].Set++
	}
}
