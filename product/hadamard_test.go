package product_test

import (
	"math/rand"
	"slices"
	"testing"

	"weighted/api"
	"weighted/combine"
	"weighted/epsilon"
	"weighted/product"
	"weighted/rational"
	"weighted/samples"
	"weighted/semiring"
	"weighted/trim"
)

func TestProductsOfRandomAutomata(t *testing.T) {
	source := rand.New(rand.NewSource(1))
	for _, s := range samples.Cases() {
		list := samples.Words(t, 2, 3)
		sizes := map[int]bool{}
		for range 20 {
			a, b := s.Random(t, source.Intn, source.Intn(5), 0, false), s.Random(t, source.Intn, 1+source.Intn(5), source.Intn(12), false)
			c := s.Random(t, source.Intn, 1+source.Intn(5), source.Intn(12), false)
			for _, x := range [][2]api.Auto{{a, b}, {b, a}, {b, b}, {b, c}, {c, c}} {
				out := hadamard(t, x[0], x[1])
				expectProduct(t, s.Line, out, x[0], x[1], list)
				sizes[out.States] = true
				// The order of the arcs makes no difference for the series, and neither does the order of the two.
				again := hadamard(t, samples.Shuffled(source.Intn, x[1]), samples.Shuffled(source.Intn, x[0]))
				expectSame(t, s.Line+", exchanged", again, out, list)
			}
		}
		if len(sizes) < 8 {
			t.Errorf("%s: the products are too much alike: %v", s.Line, sizes)
		}
	}
}

func TestProductsOfThree(t *testing.T) {
	source := rand.New(rand.NewSource(2))
	for _, s := range samples.Cases() {
		list := samples.Words(t, 2, 3)
		for range 12 {
			a, b, c := s.Random(t, source.Intn, 3, 6, false), s.Random(t, source.Intn, 3, 6, false), s.Random(t, source.Intn, 2, 6, false)
			first, second := hadamard(t, hadamard(t, a, b), c), hadamard(t, a, hadamard(t, b, c))
			for _, word := range list {
				want := semiring.Times(a.Ring, weight(t, a, word), semiring.Times(a.Ring, weight(t, b, word), weight(t, c, word)))
				expect(t, s.Line, first, word, want)
				expect(t, s.Line, second, word, want)
			}
			sum, e := combine.Union(a, b)
			expectProduct(t, s.Line+", a sum", hadamard(t, sum, c), samples.Must(t, sum, e), c, list)
		}
	}
}

func TestProductsOfReversals(t *testing.T) {
	source := rand.New(rand.NewSource(3))
	for _, s := range samples.Cases() {
		for range 12 {
			a, b := s.Random(t, source.Intn, 4, 9, false), s.Random(t, source.Intn, 4, 9, false)
			back, e := combine.Reverse(a)
			if e != api.OK {
				t.Fatal(e)
			}
			expectProduct(t, s.Line, hadamard(t, back, b), back, b, samples.Words(t, 2, 3))
			turned, e := combine.Reverse(b)
			if e != api.OK {
				t.Fatal(e)
			}
			out, both := hadamard(t, a, b), hadamard(t, back, turned)
			for _, word := range samples.Words(t, 2, 3) {
				reversed := slices.Clone(word)
				slices.Reverse(reversed)
				expect(t, s.Line, both, reversed, weight(t, out, word))
			}
		}
	}
}

// whole returns the automaton that gives all words One.
func whole(r api.Ring, symbols int) api.Auto {
	one := semiring.One(r)
	a := api.Auto{Ring: r, Symbols: symbols, States: 1, Initial: []api.Weight{one}, Final: []api.Weight{one}}
	for symbol := range symbols {
		a.Arcs = append(a.Arcs, api.Arc{Label: symbol + 1, Weight: one})
	}
	return a
}

func TestProductsWithOneAndZero(t *testing.T) {
	source := rand.New(rand.NewSource(4))
	for _, s := range samples.Cases() {
		r := s.Ring(t)
		all := whole(r, 2)
		for range 15 {
			a := s.Random(t, source.Intn, 1+source.Intn(5), source.Intn(15), false)
			want, e := trim.Trim(a)
			if e != api.OK {
				t.Fatal(e)
			}
			// This is Trim itself but for the numbers of the states.
			for _, out := range []api.Auto{hadamard(t, a, all), hadamard(t, all, a)} {
				expectSame(t, s.Line, out, a, samples.Words(t, 2, 4))
				if out.States > want.States || len(out.Arcs) > len(want.Arcs) {
					t.Errorf("%s: %s, but the Trim is %s", s.Line, samples.Shown(out), samples.Shown(want))
				}
			}
			none := api.Auto{Ring: r, Symbols: 2}
			for _, text := range []string{
				"symbols a b;states 0",
				"symbols a b;states 2;arc 0 a 1 w0;arc 1 b 0 w1",
				"symbols a b;states 2;initial 0 w0;final 1 zero;arc 0 a 1 w0;arc 1 b 0 w1",
				"symbols a b;states 2;initial 1 zero;final 1 one;arc 0 a 1 w0;arc 1 b 0 w1",
				"symbols a b;states 2;initial 0 w0;final 1 w1;arc 1 b 0 w1;gone 0 a 1",
				"symbols a b;states 2;initial 0 w0;final 1 w1;arc 1 b 0 w1;arc 0 b 1 zero",
			} {
				b := samples.Model(t, s.Fill(text, 0))
				samples.Expect(t, s.Line, hadamard(t, a, b), none)
				samples.Expect(t, s.Line, hadamard(t, b, a), none)
				samples.Expect(t, s.Line, hadamard(t, b, b), none)
			}
		}
	}
}

func TestProductsByHand(t *testing.T) {
	const two = "symbols a b;states 2;initial 0 "
	for _, x := range []struct{ ring, a, b, word, want string }{
		{"rational", two + "2;final 1 3;arc 0 a 1 5", two + "7;final 1 -1/2;arc 0 a 1 1/3", "a", "-35"},
		{"rational", two + "2;final 1 3;arc 0 a 1 5", two + "7;final 1 -1/2;arc 0 b 1 1/3", "a", "0"},
		{"rational", two + "2;final 1 3;arc 0 a 1 5", two + "7;final 1 -1/2;arc 0 b 1 1/3", "b", "0"},
		{"rational", two + "2;final 0 3;arc 0 a 0 5;arc 0 b 0 1/5", two + "1;final 0 1;arc 0 a 1 1/2;arc 1 b 0 4", "ab", "12"},
		{"rational", two + "2;final 0 3;arc 0 a 0 5;arc 0 b 0 1/5", two + "1;final 0 1;arc 0 a 1 1/2;arc 1 b 0 4", "abab", "24"},
		{"rational", two + "2;final 0 3;arc 0 a 0 5;arc 0 b 0 1/5", two + "1;final 0 1;arc 0 a 1 1/2;arc 1 b 0 4", "aab", "0"},
		{"rational", two + "2;final 0 3", two + "1/2;final 0 1/3", "", "1"},
		{"rational", two + "1;initial 1 1;final 0 2;final 1 3", two + "5;initial 1 1;final 0 1;final 1 7", "", "60"},
		{"rational", two + "1;final 1 1;arc 0 a 1 1;arc 0 a 1 2;arc 0 a 0 1", two + "1;final 1 1;arc 0 a 1 4;arc 1 a 1 2", "aa", "24"},
		{"tropical", two + "2;final 1 3;arc 0 a 1 5", two + "7;final 1 1;arc 0 a 1 0", "a", "18"},
		{"tropical", two + "0;final 0 0;arc 0 a 0 2;arc 0 a 1 1;arc 1 a 0 1", two + "0;final 1 0;arc 0 a 1 7;arc 1 a 1 3", "aaa", "17"},
		{"viterbi", two + "1/2;final 1 1/3;arc 0 a 1 1", two + "1;final 1 1/5;arc 0 a 1 1/7;arc 0 a 1 1/6", "a", "1/180"},
		{"sets", two + "ffffffffffffffff;final 1 0000000000000ff0;arc 0 a 1 ffffffffffffffff", two + "ffffffffffffffff;final 1 ffffffffffffffff;arc 0 a 1 00000000000000ff", "a", "00000000000000f0"},
		{"polynomial", two + "a;final 1 b;arc 0 a 1 c", two + "1;final 1 1;arc 0 a 1 a-b+1/2", "a", "a^2*b*c-a*b^2*c+1/2*a*b*c"},
		{"product rational tropical", two + "1|4;final 1 1|0;arc 0 a 1 3|1", two + "2|0;final 1 1|inf;arc 0 a 1 5|1", "a", "30|inf"},
	} {
		a, b := samples.Model(t, "ring "+x.ring+";"+x.a), samples.Model(t, "ring "+x.ring+";"+x.b)
		var word []int
		for _, c := range x.word {
			word = append(word, int(c-'a')+1)
		}
		want := samples.Case{Line: "ring " + x.ring}.Weight(t, x.want)
		expect(t, x.a+" and "+x.b, hadamard(t, a, b), word, want)
		expect(t, x.b+" and "+x.a, hadamard(t, b, a), word, want)
	}
}

func TestExample(t *testing.T) {
	a := samples.Model(t, "ring rational;symbols a;states 1;initial 0 1;final 0 1;arc 0 a 0 1/2")
	out := hadamard(t, a, a)
	want := semiring.One(a.Ring)
	for n := range 40 {
		expect(t, "example", out, slices.Repeat([]int{1}, n), want)
		want.Q = rational.Mul(want.Q, api.Rat{Num: []uint32{1}, Den: []uint32{4}})
	}
}

func TestEmptyLabelsThatTheNormalFormLeavesOut(t *testing.T) {
	for _, s := range samples.Cases() {
		b := samples.Model(t, s.Fill("symbols a b;states 2;initial 0 one;final 1 w1;arc 0 a 1 w2;arc 1 b 0 w0", 0))
		const text = "symbols a b;states 2;initial 0 w1;final 1 one;arc 0 a 1 w0;arc 1 b 0 w3"
		plain := samples.Model(t, s.Fill(text, 0))
		for _, more := range []string{";arc 0 - 1 zero", ";gone 0 - 1", ";gone 1 - 1", ";gone 1 - 0;arc 1 - 0 zero", ";gone 0 - 1;gone 0 - 0;gone 1 - 1;gone 1 - 0"} {
			a := samples.Model(t, s.Fill(text+more, 0))
			samples.Expect(t, s.Line, hadamard(t, a, b), hadamard(t, plain, b))
			samples.Expect(t, s.Line, hadamard(t, b, a), hadamard(t, b, plain))
			samples.Expect(t, s.Line, hadamard(t, a, a), hadamard(t, plain, plain))
		}
	}
}

func TestWithoutEmptyLabels(t *testing.T) {
	// Where epsilon.Remove takes the empty labels away, there is a product.
	source := rand.New(rand.NewSource(5))
	for _, s := range samples.Cases() {
		for range 6 {
			a, b := s.Random(t, source.Intn, 3, 12, true), s.Random(t, source.Intn, 3, 12, true)
			if hasEmpty(samples.Normal(t, a)) || hasEmpty(samples.Normal(t, b)) {
				out, e := product.Hadamard(a, b)
				samples.Fail(t, s.Line, out, e, api.ErrEpsilon)
			}
			m, e := epsilon.Remove(a)
			if e != api.OK {
				t.Fatal(e)
			}
			n, e := epsilon.Remove(b)
			if e != api.OK {
				t.Fatal(e)
			}
			expectProduct(t, s.Line, hadamard(t, m, n), m, n, samples.Words(t, 2, 2))
		}
	}
}

func TestWithoutStates(t *testing.T) {
	for _, s := range samples.Cases() {
		r := s.Ring(t)
		for _, symbols := range []int{1, 2, api.MaxSymbols} {
			none := api.Auto{Ring: r, Symbols: symbols}
			full := whole(r, symbols)
			samples.Expect(t, s.Line, hadamard(t, none, none), none)
			samples.Expect(t, s.Line, hadamard(t, none, full), none)
			samples.Expect(t, s.Line, hadamard(t, full, none), none)
			samples.Expect(t, s.Line, left(t, none, []int{1}), none)
			samples.Expect(t, s.Line, right(t, none, []int{1, 1}), none)
			samples.Expect(t, s.Line, restrict(t, none, 1), none)
		}
	}
}
