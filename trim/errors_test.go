package trim_test

import (
	"testing"

	"weighted/api"
	"weighted/samples"
	"weighted/trim"
)

// checkNone checks that both functions answer ErrForm, and nothing else.
func checkNone(t *testing.T, what string, a api.Auto) {
	t.Helper()
	if got, e := trim.Useful(a); e != api.ErrForm || len(got) > 0 {
		t.Errorf("%s: Useful is %v, %v", what, got, e)
	}
	if got, e := trim.Trim(a); e != api.ErrForm || !samples.Same(got, api.Auto{}) {
		t.Errorf("%s: Trim is %v, %v", what, got, e)
	}
}

func TestAutomataThatAreNotValid(t *testing.T) {
	for _, s := range samples.Cases() {
		for what, a := range s.Invalid(t) {
			checkNone(t, s.Line+": "+what, a)
		}
	}
}
