package combine_test

import (
	"math/rand"
	"slices"
	"testing"

	"weighted/api"
	"weighted/samples"
	"weighted/semiring"
)

// builder holds the weights that the sentences of the chapter name for each possible arc.
type builder struct {
	out     api.Auto
	weights map[[3]int]api.Weight
}

// newBuilder returns a builder for an automaton with so many states whose Initial and Final are Zero.
func newBuilder(r api.Ring, symbols, states int) *builder {
	zeros := slices.Repeat([]api.Weight{semiring.Zero(r)}, states)
	return &builder{
		out:     api.Auto{Ring: r, Symbols: symbols, States: states, Initial: zeros, Final: slices.Clone(zeros)},
		weights: map[[3]int]api.Weight{},
	}
}

// arc adds the weight of an arc to those that have the same ends and label.
func (b *builder) arc(from, label, to int, w api.Weight) {
	at := [3]int{from, label, to}
	if v, ok := b.weights[at]; ok {
		w = semiring.Plus(b.out.Ring, v, w)
	}
	b.weights[at] = w
}

// arcs adds arcs whose states have greater numbers.
func (b *builder) arcs(arcs []api.Arc, more int) {
	for _, x := range arcs {
		b.arc(x.From+more, x.Label, x.To+more, x.Weight)
	}
}

// done returns the automaton in normal form.
func (b *builder) done() api.Auto {
	zero := semiring.Zero(b.out.Ring)
	for from := range b.out.States {
		for label := range b.out.Symbols + 1 {
			for to := range b.out.States {
				if w, ok := b.weights[[3]int{from, label, to}]; ok && !semiring.Equal(w, zero) {
					b.out.Arcs = append(b.out.Arcs, api.Arc{From: from, Label: label, To: to, Weight: w})
				}
			}
		}
	}
	return b.out
}

// unionOf returns what P15.1 says of Union.
func unionOf(a, b api.Auto) api.Auto {
	x := newBuilder(a.Ring, a.Symbols, a.States+b.States)
	for i := range a.States {
		x.out.Initial[i], x.out.Final[i] = a.Initial[i], a.Final[i]
	}
	for j := range b.States {
		x.out.Initial[a.States+j], x.out.Final[a.States+j] = b.Initial[j], b.Final[j]
	}
	x.arcs(a.Arcs, 0)
	x.arcs(b.Arcs, a.States)
	return x.done()
}

// concatOf returns what P15.1 says of Concat.
func concatOf(a, b api.Auto) api.Auto {
	x := newBuilder(a.Ring, a.Symbols, a.States+b.States)
	copy(x.out.Initial, a.Initial)
	copy(x.out.Final[a.States:], b.Final)
	x.arcs(a.Arcs, 0)
	x.arcs(b.Arcs, a.States)
	for i := range a.States {
		for j := range b.States {
			x.arc(i, 0, a.States+j, semiring.Times(a.Ring, a.Final[i], b.Initial[j]))
		}
	}
	return x.done()
}

// starOf returns what P15.2 says of Star.
func starOf(a api.Auto) api.Auto {
	x := newBuilder(a.Ring, a.Symbols, a.States+1)
	x.out.Initial[a.States] = semiring.One(a.Ring)
	x.out.Final[a.States] = semiring.One(a.Ring)
	x.arcs(a.Arcs, 0)
	for i := range a.States {
		x.arc(a.States, 0, i, a.Initial[i])
		x.arc(i, 0, a.States, a.Final[i])
	}
	return x.done()
}

// reverseOf returns what P15.3 says of Reverse.
func reverseOf(a api.Auto) api.Auto {
	x := newBuilder(a.Ring, a.Symbols, a.States)
	x.out.Initial, x.out.Final = a.Final, a.Initial
	for _, y := range a.Arcs {
		x.arc(y.To, y.Label, y.From, y.Weight)
	}
	return x.done()
}

// scaleOf returns what P15.3 says of Scale.
func scaleOf(a api.Auto, w api.Weight) api.Auto {
	x := newBuilder(a.Ring, a.Symbols, a.States)
	for i := range a.States {
		x.out.Initial[i], x.out.Final[i] = semiring.Times(a.Ring, a.Initial[i], w), a.Final[i]
	}
	x.arcs(a.Arcs, 0)
	return x.done()
}

// check holds all functions against the sentences of the chapter.
func check(t *testing.T, a, b api.Auto, weights []api.Weight) {
	t.Helper()
	samples.Expect(t, "Union", union(t, a, b), unionOf(a, b))
	samples.Expect(t, "Concat", concat(t, a, b), concatOf(a, b))
	samples.Expect(t, "Star", star(t, a), starOf(a))
	samples.Expect(t, "Reverse", reverse(t, a), reverseOf(a))
	for _, w := range weights {
		samples.Expect(t, "Scale", scale(t, a, w), scaleOf(a, w))
	}
}

func TestSentences(t *testing.T) {
	source := rand.New(rand.NewSource(1))
	for _, s := range samples.Cases() {
		weights := s.Weights(t)
		for range 25 {
			a := s.Random(t, source.Intn, source.Intn(6), 0, true)
			b := s.Random(t, source.Intn, 1+source.Intn(5), source.Intn(20), true)
			for range 2 {
				check(t, a, b, weights)
				check(t, b, a, weights)
				check(t, a, a, nil)
				check(t, b, b, nil)
				a, b = samples.Shuffled(source.Intn, a), samples.Shuffled(source.Intn, b)
			}
			check(t, samples.Normal(t, a), b, nil)
			check(t, b, samples.Normal(t, b), nil)
		}
	}
}

func TestByHand(t *testing.T) {
	const first, second = "states 2;initial 0 2;initial 1 3;final 0 7;final 1 5;arc 0 b 1 11;arc 1 - 0 13", "states 2;initial 1 1/2;final 0 1/3;arc 1 a 0 1;arc 0 - 1 4"
	a, b := samples.Model(t, "ring rational;symbols a b;"+first), samples.Model(t, "ring rational;symbols a b;"+second)
	third, err := semiring.Parse(a.Ring, "1/3")
	if !err {
		t.Fatal("no weight")
	}
	for _, x := range []struct {
		what string
		got  api.Auto
		want string
	}{
		{"Union", union(t, a, b), "states 4;initial 0 2;initial 1 3;initial 3 1/2;final 0 7;final 1 5;final 2 1/3;arc 0 b 1 11;arc 1 - 0 13;arc 2 - 3 4;arc 3 a 2 1"},
		{"Union", union(t, b, a), "states 4;initial 1 1/2;initial 2 2;initial 3 3;final 0 1/3;final 2 7;final 3 5;arc 0 - 1 4;arc 1 a 0 1;arc 2 b 3 11;arc 3 - 2 13"},
		{"Concat", concat(t, a, b), "states 4;initial 0 2;initial 1 3;final 2 1/3;arc 0 - 3 7/2;arc 0 b 1 11;arc 1 - 0 13;arc 1 - 3 5/2;arc 2 - 3 4;arc 3 a 2 1"},
		{"Concat", concat(t, b, a), "states 4;initial 1 1/2;final 2 7;final 3 5;arc 0 - 1 4;arc 0 - 2 2/3;arc 0 - 3 1;arc 1 a 0 1;arc 2 b 3 11;arc 3 - 2 13"},
		{"Star", star(t, a), "states 3;initial 2 1;final 2 1;arc 0 - 2 7;arc 0 b 1 11;arc 1 - 0 13;arc 1 - 2 5;arc 2 - 0 2;arc 2 - 1 3"},
		{"Star", star(t, b), "states 3;initial 2 1;final 2 1;arc 0 - 1 4;arc 0 - 2 1/3;arc 1 a 0 1;arc 2 - 1 1/2"},
		{"Reverse", reverse(t, a), "states 2;initial 0 7;initial 1 5;final 0 2;final 1 3;arc 0 - 1 13;arc 1 b 0 11"},
		{"Reverse", reverse(t, b), "states 2;initial 0 1/3;final 1 1/2;arc 0 a 1 1;arc 1 - 0 4"},
		{"Scale", scale(t, a, third), "states 2;initial 0 2/3;initial 1 1;final 0 7;final 1 5;arc 0 b 1 11;arc 1 - 0 13"},
		{"Scale", scale(t, b, third), "states 2;initial 1 1/6;final 0 1/3;arc 1 a 0 1;arc 0 - 1 4"},
		{"Scale", scale(t, a, api.Weight{}), "states 2;final 0 7;final 1 5;arc 0 b 1 11;arc 1 - 0 13"},
	} {
		samples.Expect(t, x.what, x.got, samples.Normal(t, samples.Model(t, "ring rational;symbols a b;"+x.want)))
	}
}

func TestNewArcsOfConcat(t *testing.T) {
	for _, x := range []struct{ ring, final, initial, want string }{
		{"rational", "0", "5", ""},
		{"rational", "5", "0", ""},
		{"rational", "0", "0", ""},
		{"rational", "-2/3", "3/2", "-1"},
		{"rational", "-2/3", "-3/2", "1"},
		{"tropical", "inf", "0", ""},
		{"tropical", "0", "inf", ""},
		{"tropical", "0", "0", "0"},
		{"tropical", "1099511627776", "0", "1099511627776"},
		{"tropical", "549755813888", "549755813888", "1099511627776"},
		{"tropical", "549755813888", "549755813889", ""},
		{"tropical", "1099511627776", "1099511627776", ""},
		{"tropical", "1", "1099511627775", "1099511627776"},
		{"tropical", "1", "1099511627776", ""},
		{"viterbi", "1/2", "2/3", "1/3"},
		{"viterbi", "0", "1", ""},
		{"sets", "00000000000000f0", "0000000000000ff0", "00000000000000f0"},
		{"sets", "00000000000000f0", "000000000000000f", ""},
		{"sets", "ffffffffffffffff", "ffffffffffffffff", "ffffffffffffffff"},
		{"polynomial", "a^3", "b^2", "a^3*b^2"},
		{"polynomial", "a^3", "b^3", ""},
		{"polynomial", "a^3+1", "b^3", "b^3"},
		{"polynomial", "a+b", "a-b", "a^2-b^2"},
		{"product rational tropical", "1|inf", "0|5", ""},
		{"product rational tropical", "0|4", "1/2|5", "0|9"},
		{"product rational tropical", "1/3|4", "1/2|inf", "1/6|inf"},
		{"product rational tropical", "1/3|1099511627776", "1/2|1", "1/6|inf"},
		{"product rational tropical", "0|1099511627776", "1/2|1", ""},
		{"product sets polynomial viterbi", "000000000000000f|a^3|1", "00000000000000f0|b^3|1/7", "0000000000000000|0|1/7"},
		{"product sets polynomial viterbi", "000000000000000f|a^3|0", "00000000000000ff|b^3|1/7", "000000000000000f|0|0"},
		{"product sets polynomial viterbi", "000000000000000f|a^3|0", "00000000000000f0|b^3|1/7", ""},
	} {
		head := "ring " + x.ring + ";symbols a;"
		want := head + "states 2"
		if x.want != "" {
			want += ";arc 0 - 1 " + x.want
		}
		for _, pair := range [][2]string{{x.final, x.initial}, {x.initial, x.final}} {
			samples.Expect(t, x.ring, concat(t, samples.Model(t, head+"states 1;final 0 "+pair[0]), samples.Model(t, head+"states 1;initial 0 "+pair[1])), samples.Model(t, want))
		}
	}
}

func TestNewArcsOfStar(t *testing.T) {
	// The new arcs are those of each state, and one with an Initial or Final that is Zero is none.
	for _, s := range samples.Cases() {
		for shift := range 4 {
			a := samples.Model(t, s.Fill("symbols a;states 4;initial 0 w0;initial 1 w1;final 1 w2;final 2 w3;arc 0 - 1 s0;arc 1 - 1 s1;arc 1 - 0 s2;arc 3 a 3 w0", shift))
			want := samples.Model(t, s.Fill("symbols a;states 5;initial 4 one;final 4 one;arc 0 - 1 s0;arc 1 - 0 s2;arc 1 - 1 s1;arc 1 - 4 w2;arc 2 - 4 w3;arc 3 a 3 w0;arc 4 - 0 w0;arc 4 - 1 w1", shift))
			samples.Expect(t, s.Line, star(t, a), want)
		}
	}
}

func TestWithoutStates(t *testing.T) {
	source := rand.New(rand.NewSource(2))
	for _, s := range samples.Cases() {
		r, one := s.Ring(t), semiring.One(s.Ring(t))
		for _, symbols := range []int{1, 2, api.MaxSymbols} {
			none := api.Auto{Ring: r, Symbols: symbols}
			samples.Expect(t, "Union without states", union(t, none, none), none)
			samples.Expect(t, "Concat without states", concat(t, none, none), none)
			samples.Expect(t, "Star without states", star(t, none), api.Auto{Ring: r, Symbols: symbols, States: 1, Initial: []api.Weight{one}, Final: []api.Weight{one}})
			samples.Expect(t, "Reverse without states", reverse(t, none), none)
			samples.Expect(t, "Scale without states", scale(t, none, one), none)
		}
		for range 5 {
			none, a := api.Auto{Ring: r, Symbols: 2}, s.Random(t, source.Intn, 1+source.Intn(4), source.Intn(12), true)
			n := samples.Normal(t, a)
			samples.Expect(t, "Union with nothing", union(t, a, none), n)
			samples.Expect(t, "Union of nothing", union(t, none, a), n)
			front, end := n, n
			front.Final = slices.Repeat([]api.Weight{semiring.Zero(r)}, a.States)
			end.Initial = front.Final
			samples.Expect(t, "Concat with nothing", concat(t, a, none), front)
			samples.Expect(t, "Concat of nothing", concat(t, none, a), end)
		}
	}
}

func TestReverseTwice(t *testing.T) {
	source := rand.New(rand.NewSource(3))
	for _, s := range samples.Cases() {
		for range 20 {
			a := s.Random(t, source.Intn, 1+source.Intn(5), source.Intn(20), true)
			samples.Expect(t, "Reverse of the Reverse", reverse(t, reverse(t, a)), samples.Normal(t, a))
		}
	}
}

func TestScaleWithOneAndZero(t *testing.T) {
	source := rand.New(rand.NewSource(4))
	for _, s := range samples.Cases() {
		r := s.Ring(t)
		for range 10 {
			a := s.Random(t, source.Intn, 1+source.Intn(5), source.Intn(20), true)
			samples.Expect(t, "Scale with One", scale(t, a, semiring.One(r)), samples.Normal(t, a))
			want := samples.Normal(t, a)
			want.Initial = slices.Repeat([]api.Weight{semiring.Zero(r)}, a.States)
			samples.Expect(t, "Scale with Zero", scale(t, a, semiring.Zero(r)), want)
			for _, w := range s.Wrong(t) {
				samples.Expect(t, "Scale without a weight", scale(t, a, w), want)
			}
		}
	}
}
