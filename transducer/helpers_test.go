package transducer_test

import (
	"testing"

	"weighted/api"
	"weighted/samples"
	"weighted/semiring"
	"weighted/transducer"
)

// expectNormal checks the normal form of a transducer.
func expectNormal(t *testing.T, what string, x, want api.Trans) {
	t.Helper()
	got := samples.NormalTrans(t, x)
	if !samples.SameTrans(got, want) {
		t.Fatalf("%s: the normal form is %s, not %s", what, samples.ShownTrans(got), samples.ShownTrans(want))
	}
	if again := samples.NormalTrans(t, got); !samples.SameTrans(again, want) {
		t.Fatalf("%s: the normal form of the normal form is %s", what, samples.ShownTrans(again))
	}
}

// expectText checks the weight that a transducer gives two words.
func expectText(t *testing.T, what string, x api.Trans, in, out []int, want string) {
	t.Helper()
	w, ok := semiring.Parse(x.Ring, want)
	if !ok {
		t.Fatalf("no weight: %s", want)
	}
	samples.ExpectPair(t, what, x, in, out, w)
}

// fail checks that Weight answers an error.
func fail(t *testing.T, what string, x api.Trans, in, out []int, want api.Errno) {
	t.Helper()
	w, e := transducer.Weight(x, in, out)
	if e != want || !semiring.Equal(w, api.Weight{}) {
		t.Fatalf("%s: %v : %v: %v, %v, not %v", what, in, out, w, e, want)
	}
}

// merge returns the normal form, found by adding up for each arc the weights of all that have the same ends and labels.
func merge(x api.Trans) api.Trans {
	out, zero := x, semiring.Zero(x.Ring)
	out.Arcs = nil
	for from := range x.States {
		for in := range x.In + 1 {
			for label := range x.Out + 1 {
				for to := range x.States {
					sum := zero
					for _, y := range x.Arcs {
						if y.From == from && y.In == in && y.Out == label && y.To == to {
							sum = semiring.Plus(x.Ring, sum, y.Weight)
						}
					}
					if !semiring.Equal(sum, zero) {
						out.Arcs = append(out.Arcs, api.TArc{From: from, In: in, Out: label, To: to, Weight: sum})
					}
				}
			}
		}
	}
	return out
}

// tried returns the weight that a transducer in normal form gives two words, by trying all paths, and their number.
func tried(x api.Trans, in, out []int) (api.Weight, int) {
	sum, count := semiring.Zero(x.Ring), 0
	var follow func(state int, in, out []int, w api.Weight)
	follow = func(state int, in, out []int, w api.Weight) {
		if len(in)+len(out) == 0 {
			sum = semiring.Plus(x.Ring, sum, semiring.Times(x.Ring, w, x.Final[state]))
			count++
		}
		for _, y := range x.Arcs {
			restIn, okIn := behind(in, y.In)
			restOut, okOut := behind(out, y.Out)
			if y.From == state && okIn && okOut {
				follow(y.To, restIn, restOut, semiring.Times(x.Ring, w, y.Weight))
			}
		}
	}
	for state, w := range x.Initial {
		follow(state, in, out, w)
	}
	return sum, count
}

// behind returns what stands behind a label at the front of a word, and whether it stands there.
func behind(word []int, label int) ([]int, bool) {
	if label == 0 {
		return word, true
	}
	if len(word) == 0 || word[0] != label {
		return nil, false
	}
	return word[1:], true
}
