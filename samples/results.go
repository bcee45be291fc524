package samples

import (
	"weighted/api"
	"weighted/automaton"
)

// Must returns a result without error, after it has checked that it is in normal form.
func Must(t Test, a api.Auto, e api.Errno) api.Auto {
	t.Helper()
	if e != api.OK || !automaton.Valid(a) {
		t.Fatalf("%s, %v", Shown(a), e)
	}
	if !Same(a, Normal(t, a)) {
		t.Fatalf("not in normal form: %s", Shown(a))
	}
	return a
}

// Fail checks that a result is an error, and nothing else.
func Fail(t Test, what string, a api.Auto, e, want api.Errno) {
	t.Helper()
	if e != want || !Same(a, api.Auto{}) {
		t.Fatalf("%s: %s, %v, not %v", what, Shown(a), e, want)
	}
}

// Expect checks that a result has the fields that are expected.
func Expect(t Test, what string, got, want api.Auto) {
	t.Helper()
	if !Same(got, want) {
		t.Fatalf("%s is %s, not %s", what, Shown(got), Shown(want))
	}
}

// Overwrite changes all memory that a weight refers to.
func Overwrite(w *api.Weight) {
	for _, limbs := range [][]uint32{w.Q.Num, w.Q.Den} {
		for i := range limbs {
			limbs[i] = 77
		}
	}
	for i := range w.Poly {
		w.Poly[i].Exps[0]++
		Overwrite(&api.Weight{Q: w.Poly[i].Coef})
	}
	for i := range w.Parts {
		Overwrite(&w.Parts[i])
		w.Parts[i].Set++
	}
}
