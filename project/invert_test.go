package project_test

import (
	"math/rand"
	"testing"

	"weighted/api"
	"weighted/samples"
)

// expectInvert checks the Invert of a transducer, and that Invert of it is the normal form.
func expectInvert(t *testing.T, what string, x, want api.Trans) {
	t.Helper()
	got := invert(t, x)
	samples.ExpectTrans(t, what, got, want)
	samples.ExpectTrans(t, what+", twice", invert(t, got), samples.NormalTrans(t, x))
}

func TestInvertByHand(t *testing.T) {
	for _, x := range []struct{ arcs, want string }{
		{"", ""},
		{"0 1 3 1 5", "0 3 1 1 5"},
		{"0 1 1 1 5", "0 1 1 1 5"},
		{"0 0 3 1 5", "0 3 0 1 5"},
		{"0 2 0 1 5", "0 0 2 1 5"},
		{"0 0 0 1 5", "0 0 0 1 5"},
		// The ends stay.
		{"2 1 2 0 5, 1 2 3 1 7", "1 3 2 1 7, 2 2 1 0 5"},
		// The order is that of the labels behind the exchange.
		{"0 1 3 1 2, 0 2 1 1 3", "0 1 2 1 3, 0 3 1 1 2"},
		{"0 0 3 1 2, 0 1 2 1 3, 0 2 1 1 5, 0 2 0 1 7", "0 0 2 1 7, 0 1 2 1 5, 0 2 1 1 3, 0 3 0 1 2"},
		{"0 1 2 2 2, 0 2 2 1 3, 0 2 1 0 5", "0 1 2 0 5, 0 2 1 2 2, 0 2 2 1 3"},
		{"0 1 2 1 2, 0 1 2 0 3, 0 1 1 2 5", "0 1 1 2 5, 0 2 1 0 3, 0 2 1 1 2"},
		{"1 1 1 1 2, 0 2 2 1 3", "0 2 2 1 3, 1 1 1 1 2"},
		// Equal arcs are one, and those that are Zero are left out.
		{"0 1 3 1 2, 0 1 3 1 3", "0 3 1 1 5"},
		{"0 1 3 1 2, 0 1 3 1 -2, 0 2 1 1 0", ""},
		// Arcs with exchanged labels stay apart.
		{"0 1 2 1 2, 0 2 1 1 -2", "0 1 2 1 -2, 0 2 1 1 2"},
		{"0 1 2 1 2, 1 1 2 0 -2", "0 2 1 1 2, 1 2 1 0 -2"},
	} {
		const ends = ";initial 1 1/2;final 2 3"
		given, want := samples.Trans(t, arcsOf("ring rational;in 2;out 3", x.arcs)+ends), samples.Trans(t, arcsOf("ring rational;in 3;out 2", x.want)+ends)
		expectInvert(t, x.arcs, given, want)
	}
}

func TestInvertOfRandomTransducers(t *testing.T) {
	source := rand.New(rand.NewSource(4))
	for _, c := range samples.Cases() {
		for round := range 30 {
			x := c.RandomTrans(t, source.Intn, 1+source.Intn(4), source.Intn(3*round+2))
			want := samples.NormalTrans(t, samples.Turned(samples.NormalTrans(t, x)))
			expectInvert(t, c.Line, x, want)
			expectInvert(t, c.Line+", shuffled", samples.ShuffledTrans(source.Intn, x), want)
		}
		// The weights of pairs are those of the pairs turned.
		for range 5 {
			x := c.RandomTrans(t, source.Intn, 3, 20)
			got := invert(t, x)
			samples.Pairs(t, x, 2, func(in, out []int) {
				samples.ExpectPair(t, c.Line, got, out, in, samples.PairWeight(t, x, in, out))
			})
		}
	}
}

func TestInvertKeepsAllElse(t *testing.T) {
	for _, c := range samples.Cases() {
		for states := range api.MaxStates + 1 {
			x := blank(t, c, 1+states%api.MaxSymbols, 1+states*5%api.MaxSymbols, states)
			want := x
			want.In, want.Out = x.Out, x.In
			expectInvert(t, c.Line, x, want)
		}
		for _, x := range []api.Trans{samples.SizedTrans(c.Ring(t), api.MaxStates, api.MaxArcs), parallel(c.Ring(t), 31, 32), parallel(c.Ring(t), 1, 2)} {
			expectInvert(t, c.Line, x, samples.NormalTrans(t, samples.Turned(x)))
		}
	}
}
