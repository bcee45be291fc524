package epsilon_test

import (
	"fmt"
	"math/big"
	"math/rand"
	"slices"
	"strings"
	"testing"

	"weighted/api"
	"weighted/automaton"
	"weighted/samples"
	"weighted/semiring"
	"weighted/weigh"
)

func TestExample(t *testing.T) {
	a := samples.Model(t, "ring rational;symbols a;states 1;initial 0 1;final 0 1;arc 0 - 0 1/2;arc 0 a 0 1")
	if got, want := mustRemove(t, a), samples.Model(t, "ring rational;symbols a;states 1;initial 0 1;final 0 2;arc 0 a 0 2"); !samples.Same(got, want) {
		t.Errorf("Remove is %s", samples.Shown(got))
	}
	for n := range 20 {
		want := semiring.Zero(a.Ring)
		want.Q.Num = []uint32{1 << (n + 1)}
		if w, e := weigh.Weight(mustRemove(t, a), slices.Repeat([]int{1}, n)); e != api.OK || !semiring.Equal(w, want) {
			t.Errorf("%d symbols have the weight %v, %v", n, w, e)
		}
	}
}

func TestRemoveByHand(t *testing.T) {
	for _, x := range []struct{ ring, text, want string }{
		{"rational", "states 0", "states 0"},
		{"rational", "states 2", "states 2"},
		// Empty labels lead to a symbol, and to the end, but not from it.
		{"rational", "states 3;initial 0 1;final 2 3;arc 0 - 1 1/2;arc 1 a 2 5", "states 3;initial 0 1;final 2 3;arc 0 a 2 5/2;arc 1 a 2 5"},
		{"rational", "states 2;initial 0 1;final 1 3;arc 0 - 1 1/2", "states 2;initial 0 1;final 0 3/2;final 1 3"},
		{"rational", "states 3;initial 0 1;final 2 3;arc 0 a 1 5;arc 1 - 2 1/2", "states 3;initial 0 1;final 1 3/2;final 2 3;arc 0 a 1 5"},
		{"rational", "states 2;initial 0 7;initial 1 -2;arc 0 - 1 9", "states 2;initial 0 7;initial 1 -2"},
		// Chains, forks and joins.
		{"rational", "states 4;initial 0 1;final 3 2;arc 0 - 1 2;arc 1 - 2 3;arc 2 - 3 5;arc 3 a 0 1", "states 4;initial 0 1;final 0 60;final 1 30;final 2 10;final 3 2;arc 0 a 0 30;arc 1 a 0 15;arc 2 a 0 5;arc 3 a 0 1"},
		{"rational", "states 4;arc 0 - 1 2;arc 0 - 2 3;arc 1 a 3 5;arc 2 a 3 7;arc 1 b 3 11", "states 4;arc 0 a 3 31;arc 0 b 3 22;arc 1 a 3 5;arc 1 b 3 11;arc 2 a 3 7"},
		{"rational", "states 4;final 3 1;arc 0 - 1 2;arc 0 - 2 3;arc 1 - 3 5;arc 2 - 3 7;arc 0 - 3 11", "states 4;final 0 42;final 1 5;final 2 7;final 3 1"},
		// Loops and cycles.
		{"rational", "states 2;final 1 1;arc 0 - 0 1/3;arc 0 a 1 1;arc 1 - 1 -1/2", "states 2;final 1 2/3;arc 0 a 1 3/2"},
		{"rational", "states 2;final 0 1;arc 0 - 1 1/2;arc 1 - 0 1/2;arc 1 b 0 1", "states 2;final 0 4/3;final 1 2/3;arc 0 b 0 2/3;arc 1 b 0 4/3"},
		{"rational", "states 2;final 0 1;arc 0 - 1 1/2;arc 1 - 0 -1/2;arc 1 b 0 1", "states 2;final 0 4/5;final 1 -2/5;arc 0 b 0 2/5;arc 1 b 0 4/5"},
		{"rational", "states 3;arc 0 - 1 4;arc 1 - 2 1/2;arc 2 - 0 1/4;arc 2 a 2 1", "states 3;arc 0 a 2 4;arc 1 a 2 1;arc 2 a 2 2"},
		// Several empty arcs, which are one, also with the weight 0.
		{"rational", "states 2;final 1 1;arc 0 - 1 1/2;arc 0 - 1 1/3;arc 0 - 1 1/6", "states 2;final 0 1;final 1 1"},
		{"rational", "states 2;final 1 1;arc 0 - 1 1/2;arc 0 - 1 -1/2;arc 0 - 0 1;arc 0 - 0 -1;arc 1 - 1 -2;arc 1 - 1 2;arc 0 a 0 1", "states 2;final 1 1;arc 0 a 0 1"},
		{"rational", "states 1;final 0 1;arc 0 - 0 2;arc 0 - 0 -3/2;arc 0 a 0 3", "states 1;final 0 2;arc 0 a 0 6"},
		// Sums that are 0, of arcs and of Final.
		{"rational", "states 3;arc 0 - 1 1;arc 1 a 2 1/2;arc 0 a 2 -1/2", "states 3;arc 1 a 2 1/2"},
		{"rational", "states 3;arc 0 - 1 1/3;arc 0 - 2 1/3;arc 1 a 0 2;arc 2 a 0 -2;arc 1 b 0 2", "states 3;arc 0 b 0 2/3;arc 1 a 0 2;arc 1 b 0 2;arc 2 a 0 -2"},
		{"rational", "states 2;final 0 -3;final 1 6;arc 0 - 1 1/2", "states 2;final 1 6"},
		{"rational", "states 3;final 0 1;final 2 -4;arc 0 - 1 1/2;arc 1 - 2 1/2;arc 0 b 0 1;arc 2 b 0 -4", "states 3;final 1 -2;final 2 -4;arc 1 b 0 -2;arc 2 b 0 -4"},
		// Of the numbers in the star of the first state the denominators are 6, 10 and 15.
		{"rational", "states 4;final 3 1;arc 0 - 1 1/6;arc 0 - 2 1/10;arc 0 - 3 1/15;arc 1 a 0 1;arc 2 a 0 1;arc 3 a 0 1;arc 3 b 0 30", "states 4;final 0 1/15;final 3 1;arc 0 a 0 1/3;arc 0 b 0 2;arc 1 a 0 1;arc 2 a 0 1;arc 3 a 0 1;arc 3 b 0 30"},
		{"tropical", "states 3;initial 0 1;final 2 3;arc 0 - 1 5;arc 1 - 2 7;arc 0 - 2 20;arc 2 a 0 1;arc 0 a 0 14", "states 3;initial 0 1;final 0 15;final 1 10;final 2 3;arc 0 a 0 13;arc 1 a 0 8;arc 2 a 0 1"},
		{"tropical", "states 2;final 0 4;arc 0 - 0 0;arc 0 - 1 1;arc 1 - 0 2;arc 1 a 1 3", "states 2;final 0 4;final 1 6;arc 0 a 1 4;arc 1 a 1 3"},
		{"tropical", "states 3;final 2 1;arc 0 - 1 1099511627776;arc 1 a 2 1;arc 1 b 2 0;arc 1 - 2 0", "states 3;final 1 1;final 2 1;arc 0 b 2 1099511627776;arc 1 a 2 1;arc 1 b 2 0"},
		{"viterbi", "states 2;final 0 1/2;final 1 1;arc 0 - 0 1;arc 0 - 1 2/3;arc 1 - 0 1/2;arc 1 a 0 1/2;arc 0 a 0 1/5", "states 2;final 0 2/3;final 1 1;arc 0 a 0 1/3;arc 1 a 0 1/2"},
		{"sets", "states 2;final 1 00000000000000f0;arc 0 - 1 00000000000000ff;arc 1 a 0 0000000000000ff0;arc 1 b 0 0000000000000f00", "states 2;final 0 00000000000000f0;final 1 00000000000000f0;arc 0 a 0 00000000000000f0;arc 1 a 0 0000000000000ff0;arc 1 b 0 0000000000000f00"},
		{"polynomial", "states 2;final 0 1;arc 0 - 0 a;arc 0 b 1 b^4", "states 2;final 0 a^5+a^4+a^3+a^2+a+1;arc 0 b 1 a*b^4+b^4"},
		{"polynomial", "states 3;final 2 b^3;arc 0 - 1 a^3;arc 1 a 2 b^3;arc 1 b 2 1/2*b^2;arc 1 - 2 1", "states 3;final 1 b^3;final 2 b^3;arc 0 b 2 1/2*a^3*b^2;arc 1 a 2 b^3;arc 1 b 2 1/2*b^2"},
		{"polynomial", "states 2;final 1 1;arc 0 - 0 1/2;arc 0 - 1 a+1/3;arc 1 a 1 6*c-1;arc 0 a 1 1/3", "states 2;final 0 2*a+2/3;final 1 1;arc 0 a 1 12*a*c-2*a+4*c;arc 1 a 1 6*c-1"},
		// A part that is Zero alone keeps the arc.
		{"product rational tropical", "states 2;final 1 1|0;arc 0 - 1 1|2;arc 1 a 1 3|4;arc 0 a 1 -3|9", "states 2;final 0 1|2;final 1 1|0;arc 0 a 1 0|6;arc 1 a 1 3|4"},
		{"product rational tropical", "states 2;final 1 1|inf;arc 0 - 1 0|2;arc 1 a 1 3|inf;arc 1 b 1 3|1", "states 2;final 1 1|inf;arc 0 b 1 0|3;arc 1 a 1 3|inf;arc 1 b 1 3|1"},
		{"product rational polynomial viterbi", "states 2;final 1 2|1|1/2;arc 0 - 0 1/2|c-1/2|1;arc 0 - 1 1/3|1/3|1/3;arc 1 b 0 3|a^5|1", "states 2;final 0 4/3|64/2187*c^5+32/729*c^4+16/243*c^3+8/81*c^2+4/27*c+2/9|1/6;final 1 2|1|1/2;arc 0 b 0 2|2/9*a^5|1/3;arc 1 b 0 3|a^5|1"},
	} {
		head := "ring " + x.ring + ";symbols a b;"
		a, want := samples.Model(t, head+x.text), samples.Model(t, head+x.want)
		if got := mustRemove(t, a); !samples.Same(got, want) {
			t.Errorf("%s: Remove of %s is %s", x.ring, x.text, samples.Shown(got))
		}
		check(t, a)
	}
}

func TestRemoveWithoutStates(t *testing.T) {
	for _, s := range samples.Cases() {
		for _, symbols := range []int{1, api.MaxSymbols} {
			a := api.Auto{Ring: s.Ring(t), Symbols: symbols}
			if got := mustRemove(t, a); !samples.Same(got, a) {
				t.Errorf("%s: Remove without states is %s", s.Line, samples.Shown(got))
			}
			check(t, a)
		}
	}
}

func TestRemoveWithoutEmptyLabels(t *testing.T) {
	source := rand.New(rand.NewSource(2))
	nowhere := func(_, _ int) bool { return false }
	for _, s := range samples.Cases() {
		for range 10 {
			// The arcs that the normal form leaves out are empty ones too.
			a := random(t, source, s, 1+source.Intn(5), source.Intn(12), nowhere)
			if got, want := mustRemove(t, a), samples.Normal(t, a); !samples.Same(got, want) {
				t.Errorf("%s: Remove is %s, not the normal form %s", s.Line, samples.Shown(got), samples.Shown(want))
			}
		}
	}
}

func TestRemoveOfEmptyLabelsAlone(t *testing.T) {
	source := rand.New(rand.NewSource(3))
	for _, s := range samples.Cases() {
		for range 10 {
			a := random(t, source, s, 1+source.Intn(5), 0, anywhere)
			a.Arcs = slices.DeleteFunc(a.Arcs, func(x api.Arc) bool { return x.Label > 0 })
			if got := mustRemove(t, a); len(got.Arcs) > 0 {
				t.Errorf("%s: Remove of %s has arcs: %s", s.Line, samples.Shown(a), samples.Shown(got))
			}
			check(t, a)
		}
	}
}

func TestRemoveOfEachRing(t *testing.T) {
	for _, s := range samples.Cases() {
		for shift := range 4 {
			for _, template := range []string{
				"states 1;initial 0 w0;final 0 w1;arc 0 - 0 s0;arc 0 a 0 w2",
				"states 2;initial 0 w0;final 1 w1;arc 0 - 1 s0;arc 0 - 1 s1;arc 0 - 1 s2;gone 1 - 0",
				"states 2;initial 0 w0;final 1 w1;arc 0 - 1 s0;arc 1 - 0 s1;arc 0 a 1 w2;arc 1 b 1 w3",
				"states 2;final 0 w1;final 1 w1;arc 0 - 1 one;arc 1 b 0 w3;arc 0 b 0 w0;arc 0 b 1 w1",
				"states 3;initial 1 w0;final 2 w1;arc 2 - 0 one;arc 0 - 1 s0;arc 1 - 2 s1;arc 0 a 2 w2;arc 1 a 2 w3;arc 2 a 2 w0",
				"states 4;final 3 w1;arc 0 - 1 w0;arc 0 - 2 w1;arc 1 - 3 w2;arc 2 - 3 w3;arc 3 a 0 one;arc 3 b 0 zero;gone 0 - 0",
			} {
				check(t, samples.Model(t, s.Fill("symbols a b;"+template, shift)))
			}
		}
	}
}

func TestSumsThatAreZero(t *testing.T) {
	// The arcs that an empty label of weight One leads to have, with those beside it, the sum Zero.
	for _, s := range samples.Cases() {
		template := "symbols a b;states 4;final 1 w0;arc 0 - 1 one;arc 1 b 3 w1;arc 0 b 2 w2"
		for i, text := range s.Gone {
			template += fmt.Sprintf(";arc %d a 3 %s", i%2, text)
		}
		a := samples.Model(t, s.Fill(template, 0))
		got := mustRemove(t, a)
		if isZero := semiring.Equal(weightOf(got, 0, 1, 3), semiring.Zero(a.Ring)); !isZero || len(got.Arcs) < 3 {
			t.Errorf("%s: Remove of %s is %s", s.Line, samples.Shown(a), samples.Shown(got))
		}
		check(t, a)
	}
}

func TestRemoveAtRandom(t *testing.T) {
	source := rand.New(rand.NewSource(4))
	for _, s := range samples.Cases() {
		for range 30 {
			check(t, random(t, source, s, 1+source.Intn(5), source.Intn(12), anywhere))
			check(t, random(t, source, s, 1+source.Intn(5), source.Intn(12), onward))
		}
	}
}

func TestRemoveTwice(t *testing.T) {
	source := rand.New(rand.NewSource(5))
	for _, s := range samples.Cases() {
		for range 10 {
			b := mustRemove(t, random(t, source, s, 1+source.Intn(5), source.Intn(12), anywhere))
			if got := mustRemove(t, b); !samples.Same(got, b) {
				t.Errorf("%s: Remove of the Remove %s is %s", s.Line, samples.Shown(b), samples.Shown(got))
			}
		}
	}
}

func TestRemoveWithOtherNumbersOfStates(t *testing.T) {
	source := rand.New(rand.NewSource(6))
	renumber := func(a api.Auto, to []int) api.Auto {
		b, e := automaton.Renumber(a, to)
		if e != api.OK {
			t.Fatalf("%s: Renumber: %v", samples.Shown(a), e)
		}
		return b
	}
	for _, s := range samples.Cases() {
		for range 10 {
			a := random(t, source, s, 1+source.Intn(5), source.Intn(12), anywhere)
			to := source.Perm(a.States)
			if got, want := mustRemove(t, renumber(a, to)), renumber(mustRemove(t, a), to); !samples.Same(got, want) {
				t.Errorf("%s, %v: Remove is %s, not %s", samples.Shown(a), to, samples.Shown(got), samples.Shown(want))
			}
		}
	}
}

func TestRemoveOfTuplesPartByPart(t *testing.T) {
	source := rand.New(rand.NewSource(7))
	for _, s := range samples.Cases() {
		for at, kind := range s.Ring(t).Parts {
			for range 10 {
				a := random(t, source, s, 1+source.Intn(5), source.Intn(12), anywhere)
				if got, want := mustRemove(t, part(a, kind, at)), samples.Normal(t, part(mustRemove(t, a), kind, at)); !samples.Same(got, want) {
					t.Errorf("%s: Remove of part %d is %s, not %s", samples.Shown(a), at, samples.Shown(got), samples.Shown(want))
				}
			}
		}
	}
}

// part returns the automaton with one part of all weights.
func part(a api.Auto, kind, at int) api.Auto {
	out := api.Auto{Ring: api.Ring{Kind: kind}, Symbols: a.Symbols, States: a.States}
	for i := range a.States {
		out.Initial = append(out.Initial, a.Initial[i].Parts[at])
		out.Final = append(out.Final, a.Final[i].Parts[at])
	}
	for _, x := range a.Arcs {
		x.Weight = x.Weight.Parts[at]
		out.Arcs = append(out.Arcs, x)
	}
	return out
}

func TestLongNumbers(t *testing.T) {
	digits := strings.Repeat("7", api.MaxDigits)
	a := samples.Model(t, "ring rational;symbols a;states 2;initial 0 "+digits+";final 1 1/"+digits+";arc 0 - 0 1/3;arc 0 - 1 "+digits+"/2;arc 1 a 1 2/"+digits)
	want := samples.Model(t, "ring rational;symbols a;states 2;initial 0 "+digits+";final 0 3/4;final 1 1/"+digits+";arc 0 a 1 3/2;arc 1 a 1 2/"+digits)
	if got := mustRemove(t, a); !samples.Same(got, want) {
		t.Errorf("Remove is %s", samples.Shown(got))
	}
}

func TestManyStates(t *testing.T) {
	// Empty labels of the weight 1/2 lead round all states. The symbol and the end are at the last one alone.
	text := "ring rational;symbols a;states 64;initial 0 1;final 63 1;arc 63 a 0 1"
	for i := range api.MaxStates {
		text += fmt.Sprintf(";arc %d - %d 1/2", i, (i+1)%api.MaxStates)
	}
	b := mustRemove(t, samples.Model(t, text))
	if len(b.Arcs) != api.MaxStates {
		t.Fatalf("%d arcs", len(b.Arcs))
	}
	for i, x := range b.Arcs {
		// From i, 63 - i steps lead to state 63, or 64 more, or 128: the sum of their weights is 2^(i + 1) / (2^64 - 1).
		num := new(big.Int).Lsh(big.NewInt(1), uint(i+1))
		want, ok := semiring.Parse(b.Ring, num.String()+"/18446744073709551615")
		if !ok || x.From != i || x.Label != 1 || x.To != 0 || !semiring.Equal(x.Weight, want) || !semiring.Equal(b.Final[i], want) {
			t.Errorf("state %d: %v, final %v", i, x, b.Final[i])
		}
	}
}
