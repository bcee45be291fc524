package transducer_test

import (
	"math/big"
	"math/rand"
	"slices"
	"strconv"
	"testing"

	"weighted/api"
	"weighted/samples"
	"weighted/semiring"
	"weighted/weigh"
)

func TestExample(t *testing.T) {
	x := samples.Trans(t, "ring rational;in 1;out 1;states 1;initial 0 1;final 0 1;arc 0 1 0 0 1;arc 0 0 1 0 1")
	for _, m := range []int{0, 1, 2, 3, 7, 30, 255, api.MaxWord} {
		for _, n := range []int{0, 1, 2, 5, 17, api.MaxWord} {
			want := new(big.Int).Binomial(int64(m+n), int64(m)).String()
			expectText(t, "binomial coefficient", x, slices.Repeat([]int{1}, m), slices.Repeat([]int{1}, n), want)
		}
	}
}

func TestExampleOfMoreSymbols(t *testing.T) {
	x := samples.Trans(t, "ring rational;in 3;out 2;states 1;initial 0 1/2;final 0 4;arc 0 1 0 0 1;arc 0 3 0 0 2;arc 0 0 2 0 3;arc 0 0 1 0 1/3")
	// 2 binomial coefficients (5 over 2), and the weights of the symbols whatever their order.
	expectText(t, "symbols", x, []int{1, 3}, []int{2, 2, 1}, "120")
	expectText(t, "symbols", x, []int{3, 1}, []int{1, 2, 2}, "120")
	expectText(t, "a symbol without arcs", x, []int{1, 2}, []int{2}, "0")
}

func TestPathsOfDiagonals(t *testing.T) {
	// With an arc for both labels at once, the number of ways from corner to corner of a board is the sum of (m over k) (n over k) 2^k.
	x := samples.Trans(t, "ring rational;in 1;out 1;states 1;initial 0 1;final 0 1;arc 0 1 0 0 1;arc 0 0 1 0 1;arc 0 1 1 0 1")
	for _, m := range []int{0, 1, 2, 3, 8, 40, 200} {
		for _, n := range []int{0, 1, 4, 11, 90, 256} {
			want := new(big.Int)
			for k := range int64(min(m, n) + 1) {
				ways := new(big.Int).Mul(new(big.Int).Binomial(int64(m), k), new(big.Int).Binomial(int64(n), k))
				want.Add(want, ways.Lsh(ways, uint(k)))
			}
			expectText(t, "ways", x, slices.Repeat([]int{1}, m), slices.Repeat([]int{1}, n), want.String())
		}
	}
}

func TestWeightsByHand(t *testing.T) {
	for _, x := range []struct {
		text    string
		in, out []int
		want    string
	}{
		// One state.
		{"ring rational;in 1;out 1;states 1;initial 0 2;final 0 3", nil, nil, "6"},
		{"ring rational;in 1;out 1;states 1;initial 0 2;final 0 3", []int{1}, nil, "0"},
		{"ring rational;in 1;out 1;states 1;initial 0 2;final 0 3;arc 0 1 1 0 1/2", nil, nil, "6"},
		{"ring rational;in 1;out 1;states 1;initial 0 2;final 0 3;arc 0 1 1 0 1/2", []int{1, 1}, []int{1, 1}, "3/2"},
		{"ring rational;in 1;out 1;states 1;initial 0 2;final 0 3;arc 0 1 1 0 1/2", []int{1, 1}, []int{1}, "0"},
		{"ring rational;in 1;out 1;states 1;initial 0 0;final 0 3;arc 0 1 1 0 1/2", []int{1}, []int{1}, "0"},
		{"ring rational;in 1;out 1;states 1;initial 0 2;final 0 0;arc 0 1 1 0 1/2", []int{1}, []int{1}, "0"},
		// Several states with Initial and Final.
		{"ring rational;in 1;out 1;states 3;initial 0 2;final 0 3;initial 1 5;final 1 7;initial 2 11", nil, nil, "41"},
		{"ring rational;in 1;out 1;states 2;initial 0 2;final 0 3;initial 1 5;final 1 7;arc 0 1 0 1 1;arc 1 1 0 0 10", []int{1}, nil, "164"},
		// The symbols of one side may be those of the other.
		{"ring rational;in 2;out 2;states 1;initial 0 1;final 0 1;arc 0 1 2 0 1/2;arc 0 2 1 0 1/3", []int{1, 2}, []int{2, 1}, "1/6"},
		{"ring rational;in 2;out 2;states 1;initial 0 1;final 0 1;arc 0 1 2 0 1/2;arc 0 2 1 0 1/3", []int{2, 1}, []int{2, 1}, "0"},
		{"ring rational;in 2;out 2;states 1;initial 0 1;final 0 1;arc 0 1 2 0 1/2;arc 0 2 1 0 1/3", []int{1, 2}, []int{1, 2}, "0"},
		// Empty labels before, between and behind the symbols.
		{"ring rational;in 1;out 1;states 5;initial 0 1;final 4 1;arc 0 0 0 1 2;arc 1 1 0 2 3;arc 2 0 0 3 5;arc 3 0 1 4 7", []int{1}, []int{1}, "210"},
		{"ring rational;in 1;out 1;states 5;initial 4 1;final 0 1;arc 4 0 0 3 2;arc 3 1 0 2 3;arc 2 0 0 1 5;arc 1 0 1 0 7", []int{1}, []int{1}, "210"},
		{"ring rational;in 1;out 1;states 4;initial 0 1;final 3 1;arc 0 1 0 1 2;arc 1 0 0 2 3;arc 2 0 0 3 5", []int{1}, nil, "30"},
		{"ring rational;in 1;out 1;states 4;initial 0 1;final 3 1;arc 0 0 0 1 2;arc 1 0 0 2 3;arc 2 0 1 3 5", nil, []int{1}, "30"},
		{"ring rational;in 1;out 1;states 4;initial 0 1;final 3 1;arc 0 0 0 1 2;arc 1 1 1 2 3;arc 2 0 0 3 5", []int{1}, []int{1}, "30"},
		{"ring rational;in 1;out 1;states 2;initial 0 1;final 1 1;arc 0 0 0 1 2;arc 1 1 1 0 3", []int{1, 1}, []int{1, 1}, "72"},
		// Several paths of the same labels.
		{"ring rational;in 1;out 1;states 3;initial 0 1;final 2 1;arc 0 1 0 1 2;arc 1 0 1 2 3;arc 0 1 1 2 5;arc 0 0 1 1 7;arc 1 1 0 2 11", []int{1}, []int{1}, "88"},
		{"ring rational;in 1;out 1;states 4;initial 0 1;final 3 1;arc 0 0 0 1 2;arc 0 0 0 2 3;arc 1 0 0 3 5;arc 2 0 0 3 7;arc 0 0 0 3 11;arc 1 0 0 2 13", nil, nil, "224"},
		{"ring tropical;in 1;out 1;states 3;initial 0 1;final 2 2;arc 0 1 0 1 2;arc 1 0 1 2 3;arc 0 1 1 2 6;arc 0 0 1 1 0;arc 1 1 0 2 4", []int{1}, []int{1}, "7"},
		{"ring viterbi;in 1;out 1;states 3;initial 0 1/2;final 2 1;arc 0 1 0 1 1/2;arc 1 0 1 2 1/3;arc 0 1 1 2 1/5;arc 0 0 1 1 1/7;arc 1 1 0 2 1", []int{1}, []int{1}, "1/10"},
		{"ring sets;in 1;out 1;states 2;initial 0 ffffffffffffffff;final 1 0000000000000fff;arc 0 1 1 1 000000000000f0f0;arc 0 1 0 1 00000000ffffffff;arc 1 0 1 1 000000000000000f", []int{1}, []int{1}, "00000000000000ff"},
		{"ring polynomial;in 1;out 1;states 2;initial 0 1;final 1 b;arc 0 1 1 1 a;arc 0 1 0 1 c;arc 1 0 1 1 -1/2", []int{1}, []int{1}, "a*b-1/2*b*c"},
		{"ring product rational tropical;in 1;out 1;states 2;initial 0 1|0;final 1 2|1;arc 0 1 1 1 3|5;arc 0 1 0 1 1/2|1;arc 1 0 1 1 4|2", []int{1}, []int{1}, "10|4"},
	} {
		m := samples.Trans(t, x.text)
		expectText(t, x.text, m, x.in, x.out, x.want)
		expectText(t, "turned", samples.Turned(m), x.out, x.in, x.want)
	}
}

func TestDistanceOfWords(t *testing.T) {
	// The least number of symbols to insert, to leave out and to replace.
	text := "ring tropical;in 3;out 3;states 1;initial 0 0;final 0 0"
	for a := range 4 {
		for b := range 4 {
			if a != b {
				text += ";arc 0 " + strconv.Itoa(a) + " " + strconv.Itoa(b) + " 0 1"
			} else if a > 0 {
				text += ";arc 0 " + strconv.Itoa(a) + " " + strconv.Itoa(b) + " 0 0"
			}
		}
	}
	x := samples.Trans(t, text)
	all := samples.Words(t, 3, 4)
	for i, in := range all {
		for k := i % 7; k < len(all); k += 7 {
			expectText(t, "distance", x, in, all[k], strconv.Itoa(distance(in, all[k])))
		}
	}
	alternate := slices.Repeat([]int{1, 2}, api.MaxWord/2)
	expectText(t, "distance", x, alternate, slices.Repeat([]int{2, 1}, api.MaxWord/2), "2")
	expectText(t, "distance", x, alternate, slices.Repeat([]int{3}, api.MaxWord), "256")
	expectText(t, "distance", x, alternate, nil, "256")
	expectText(t, "distance", x, slices.Repeat([]int{1}, 200), alternate, "128")
}

// distance returns the number of changes that make one word another.
func distance(v, w []int) int {
	if len(v) == 0 || len(w) == 0 {
		return len(v) + len(w)
	}
	if v[0] == w[0] {
		return distance(v[1:], w[1:])
	}
	return 1 + min(distance(v[1:], w[1:]), distance(v[1:], w), distance(v, w[1:]))
}

func TestWeightIsTheSumOverAllPaths(t *testing.T) {
	source := rand.New(rand.NewSource(5))
	for _, c := range samples.Cases() {
		several, empty := 0, 0
		for range 25 {
			x := c.RandomTrans(t, source.Intn, 1+source.Intn(4), source.Intn(26))
			n := merge(x)
			samples.Pairs(t, x, 2, func(in, out []int) {
				want, count := tried(n, in, out)
				samples.ExpectPair(t, c.Line, x, in, out, want)
				several += min(count/2, 1)
				empty += min(count, 1) * (1 - min(len(in)+len(out), 1))
			})
		}
		if several < 200 || empty < 10 {
			t.Errorf("%s: %d pairs of words with several paths, %d empty ones with a path", c.Line, several, empty)
		}
	}
}

func TestWeightOfLongerWords(t *testing.T) {
	source := rand.New(rand.NewSource(6))
	word := func(symbols int) []int {
		var out []int
		for range source.Intn(6) {
			out = append(out, 1+source.Intn(symbols))
		}
		return out
	}
	for _, c := range samples.Cases() {
		for range 40 {
			x := c.RandomTrans(t, source.Intn, 1+source.Intn(3), 6+source.Intn(8))
			in, out := word(x.In), word(x.Out)
			want, _ := tried(merge(x), in, out)
			samples.ExpectPair(t, c.Line, x, in, out, want)
		}
	}
}

func TestWeightDoesNotDependOnTheOrderOfArcs(t *testing.T) {
	source := rand.New(rand.NewSource(7))
	for _, c := range samples.Cases() {
		for range 5 {
			x := c.RandomTrans(t, source.Intn, 3, 25)
			samples.Pairs(t, x, 2, func(in, out []int) {
				want := samples.PairWeight(t, x, in, out)
				samples.ExpectPair(t, c.Line+", shuffled", samples.ShuffledTrans(source.Intn, x), in, out, want)
				samples.ExpectPair(t, c.Line+", normal form", samples.NormalTrans(t, x), in, out, want)
				samples.ExpectPair(t, c.Line+", turned", samples.Turned(x), out, in, want)
			})
		}
	}
}

func TestWeightsOfAutomata(t *testing.T) {
	source := rand.New(rand.NewSource(8))
	for _, c := range samples.Cases() {
		for round := range 20 {
			a := c.Random(t, source.Intn, 4, 14, false)
			word := make([]int, round*round/2)
			for i := range word {
				word[i] = 1 + source.Intn(a.Symbols)
			}
			want, e := weigh.Weight(a, word)
			if e != api.OK {
				t.Fatal(e)
			}
			zero := semiring.Zero(a.Ring)
			reading, copying := samples.Reading(a, 7), samples.Copying(a)
			samples.ExpectPair(t, c.Line+", reading", reading, word, nil, want)
			samples.ExpectPair(t, c.Line+", reading", reading, word, []int{7}, zero)
			samples.ExpectPair(t, c.Line+", writing", samples.Turned(reading), nil, word, want)
			samples.ExpectPair(t, c.Line+", writing", samples.Turned(reading), []int{7}, word, zero)
			samples.ExpectPair(t, c.Line+", copying", copying, word, word, want)
			if len(word) > 0 {
				samples.ExpectPair(t, c.Line+", copying", copying, word, word[1:], zero)
				samples.ExpectPair(t, c.Line+", copying", copying, word[1:], word, zero)
				samples.ExpectPair(t, c.Line+", copying", copying, nil, word, zero)
			}
		}
	}
}

func TestChainsOfEmptyLabels(t *testing.T) {
	source := rand.New(rand.NewSource(9))
	for _, c := range samples.Cases() {
		for _, states := range []int{1, 2, 5, api.MaxStates} {
			order := source.Perm(states)
			x := cycle(t, c, order, false)
			first, last := order[0], order[states-1]
			one := semiring.One(x.Ring)
			x.Initial[first], x.Final[last] = one, one
			want := one
			for _, y := range x.Arcs {
				want = semiring.Times(x.Ring, want, y.Weight)
			}
			samples.ExpectPair(t, c.Line, x, nil, nil, want)
			samples.ExpectPair(t, c.Line, x, []int{1}, nil, semiring.Zero(x.Ring))
			// With an arc back, the chain stands before, between and behind the symbols.
			for _, y := range []api.TArc{{In: 1}, {Out: 1}, {In: 1, Out: 1}} {
				y.From, y.To, y.Weight = last, first, one
				back := x
				back.Arcs = append(slices.Clone(x.Arcs), y)
				in, out := slices.Repeat([]int{1}, 2*y.In), slices.Repeat([]int{1}, 2*y.Out)
				samples.ExpectPair(t, c.Line, back, in, out, semiring.Times(x.Ring, want, semiring.Times(x.Ring, want, want)))
			}
		}
	}
}

func TestManyWaysOfEmptyLabels(t *testing.T) {
	// Each state leads to all that follow: the number of ways doubles from state to state.
	source := rand.New(rand.NewSource(10))
	order := source.Perm(api.MaxStates)
	x := api.Trans{Ring: api.Ring{Kind: api.Rational}, In: 1, Out: 1, States: api.MaxStates, Initial: make([]api.Weight, api.MaxStates), Final: make([]api.Weight, api.MaxStates)}
	one := semiring.One(x.Ring)
	for to := range order {
		for from := range to {
			x.Arcs = append(x.Arcs, api.TArc{From: order[from], To: order[to], Weight: one})
		}
	}
	x.Initial[order[0]], x.Final[order[63]] = one, one
	x = samples.ShuffledTrans(source.Intn, x)
	expectText(t, "ways", x, nil, nil, new(big.Int).Lsh(big.NewInt(1), 62).String())
	x.Arcs = append(x.Arcs, api.TArc{From: order[63], In: 1, To: order[0], Weight: one})
	expectText(t, "ways", x, slices.Repeat([]int{1}, 9), nil, new(big.Int).Lsh(big.NewInt(1), 620).String())
}

func TestAllSymbols(t *testing.T) {
	for _, c := range samples.Cases() {
		one, zero := semiring.One(c.Ring(t)), semiring.Zero(c.Ring(t))
		x := samples.Trans(t, c.Fill("in 32;out 31;states 1;initial 0 one;final 0 one", 0))
		for in := 1; in <= 32; in++ {
			x.Arcs = append(x.Arcs, api.TArc{In: in, Out: 32 - in, Weight: one})
		}
		for in := 1; in <= 32; in++ {
			for out := range 32 {
				want := zero
				if in+out == 32 {
					want = one
				}
				samples.ExpectPair(t, c.Line, x, []int{in}, slices.Repeat([]int{out}, min(out, 1)), want)
			}
		}
	}
}

func TestManyStatesAndArcs(t *testing.T) {
	source := rand.New(rand.NewSource(11))
	for _, c := range samples.Cases() {
		x := samples.SizedTrans(c.Ring(t), api.MaxStates, api.MaxArcs)
		for i := range x.Arcs {
			// The number of the state grows with the length of the output, and its parity tells that of the input.
			x.Arcs[i] = api.TArc{From: i % 64, In: i / 64, Out: 1 + i%32, To: (i%64 + i/64) % 64, Weight: x.Arcs[i].Weight}
		}
		in := make([]int, 40)
		out, state := make([]int, len(in)), 0
		for i := range in {
			in[i], out[i] = 1+source.Intn(31), 1+state%32
			state = (state + in[i]) % 64
		}
		// There are two states from which the output begins with 1, and both follow the same way.
		want := semiring.Plus(x.Ring, semiring.One(x.Ring), semiring.One(x.Ring))
		samples.ExpectPair(t, c.Line, x, in, out, want)
		out[39] = 1 + out[39]%32
		samples.ExpectPair(t, c.Line, x, in, out, semiring.Zero(x.Ring))
	}
}
