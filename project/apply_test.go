package project_test

import (
	"math/rand"
	"slices"
	"strconv"
	"strings"
	"testing"

	"weighted/api"
	"weighted/compose"
	"weighted/samples"
	"weighted/semiring"
	"weighted/transducer"
	"weighted/weigh"
)

func TestApplyByHand(t *testing.T) {
	for _, x := range []struct{ what, given, word, want string }{
		{"a copy", "states 1;initial 0 1;final 0 1;arc 0 1 1 0 1;arc 0 2 2 0 1", "1 2 2",
			"states 4;initial 0 1;final 3 1;arc 0 a 1 1;arc 1 b 2 1;arc 2 b 3 1"},
		{"several outputs", "states 1;initial 0 1;final 0 1;arc 0 1 2 0 1/2;arc 0 1 1 0 5;arc 0 2 3 0 1/3;arc 0 2 0 0 7", "1 2",
			"states 3;initial 0 1;final 2 1;arc 0 a 1 5;arc 0 b 1 1/2;arc 1 - 2 7;arc 1 c 2 1/3"},
		{"all weights", "states 2;initial 0 1/2;final 1 1/3;arc 0 1 2 1 5", "1", "states 2;initial 0 1/2;final 1 1/3;arc 0 b 1 5"},
		{"several states at the start and at the end", "states 2;initial 0 2;initial 1 3;final 0 5;final 1 7;arc 0 1 1 1 11;arc 1 1 2 0 13", "1",
			"states 4;initial 0 2;initial 1 3;final 2 7;final 3 5;arc 0 a 2 11;arc 1 b 3 13"},
		{"states that are no ends are not final", "states 2;initial 0 1;final 0 1;final 1 1;arc 0 1 1 1 1;arc 1 1 2 1 1", "1 1", "states 3;initial 0 1;final 2 1;arc 0 a 1 1;arc 1 b 2 1"},
		{"states that are no starts are not initial", "states 2;initial 0 1;initial 1 1;final 1 1;arc 0 1 1 1 1", "1 1", "states 0"},
		{"arcs that are one", "states 2;initial 0 1;final 1 1;arc 0 1 2 1 1/2;arc 1 1 2 0 0;arc 0 1 2 1 1/3", "1", "states 2;initial 0 1;final 1 1;arc 0 b 1 5/6"},
		{"arcs whose sum is Zero", "states 2;initial 0 1;final 1 1;arc 0 1 2 1 1/2;arc 0 1 2 1 -1/2", "1", "states 0"},
		{"useless states", "states 4;initial 0 1;final 1 1;final 3 1;arc 0 1 1 1 2;arc 0 1 2 2 3;arc 3 1 3 1 5;arc 2 2 1 1 7", "1", "states 2;initial 0 1;final 1 1;arc 0 a 1 2"},
		{"states in the order in which they are found", "states 3;initial 2 1;final 0 1;final 1 1;arc 2 1 1 1 2;arc 2 1 2 0 3;arc 1 2 3 0 5;arc 0 2 1 1 7", "1 2",
			"states 5;initial 0 1;final 3 1;final 4 1;arc 0 a 2 2;arc 0 b 1 3;arc 1 a 3 7;arc 2 c 4 5"},

		{"nothing reads the second symbol", "states 1;initial 0 1;final 0 1;arc 0 1 1 0 1", "1 2", "states 0"},
		{"nothing reads the first symbol", "states 1;initial 0 1;final 0 1;arc 0 1 1 0 1", "2 1", "states 0"},
		{"nothing reads two symbols", "states 2;initial 0 1;final 1 1;arc 0 1 1 1 1", "1 1", "states 0"},
		{"a symbol has to be read", "states 2;initial 0 1;final 1 1;arc 0 1 1 1 1", "", "states 0"},
		{"no arcs", "states 2;initial 0 1;final 1 1", "1", "states 0"},
		{"only empty labels", "states 1;initial 0 1;final 0 1;arc 0 0 1 0 1;arc 0 0 0 0 1", "1", "states 0"},
		{"no states", "states 0", "1 2", "states 0"},
		{"no states, the empty word", "states 0", "", "states 0"},
		{"no start", "states 1;final 0 1;arc 0 1 1 0 1", "1", "states 0"},
		{"no end", "states 1;initial 0 1;arc 0 1 1 0 1", "1", "states 0"},

		{"the empty word", "states 1;initial 0 3;final 0 5;arc 0 1 1 0 1", "", "states 1;initial 0 3;final 0 5"},
		{"the empty word, several states", "states 3;initial 0 3;initial 1 2;initial 2 7;final 0 5;final 2 11", "", "states 2;initial 0 3;initial 1 7;final 0 5;final 1 11"},
		{"the empty word and empty labels", "states 2;initial 0 3;final 0 5;final 1 7;arc 0 0 1 1 2;arc 0 1 2 1 1;arc 0 0 0 1 13", "",
			"states 2;initial 0 3;final 0 5;final 1 7;arc 0 - 1 13;arc 0 a 1 2"},

		{"an empty label before", "states 3;initial 0 1;final 2 1;arc 0 0 1 1 2;arc 1 1 2 2 3", "1", "states 3;initial 0 1;final 2 1;arc 0 a 1 2;arc 1 b 2 3"},
		{"an empty label between", "states 4;initial 0 1;final 3 1;arc 0 1 1 1 2;arc 1 0 2 2 3;arc 2 2 3 3 5", "1 2", "states 4;initial 0 1;final 3 1;arc 0 a 1 2;arc 1 b 2 3;arc 2 c 3 5"},
		{"an empty label behind", "states 3;initial 0 1;final 2 1;arc 0 1 1 1 2;arc 1 0 2 2 3", "1", "states 3;initial 0 1;final 2 1;arc 0 a 1 2;arc 1 b 2 3"},
		{"empty labels everywhere", "states 2;initial 0 1;final 0 1;arc 0 0 3 1 2;arc 1 1 1 0 3", "1 1",
			"states 5;initial 0 1;final 4 1;arc 0 c 1 2;arc 1 a 2 3;arc 2 c 3 2;arc 3 a 4 3"},
		{"two empty labels in a row", "states 4;initial 0 1;final 3 1;arc 0 0 1 1 2;arc 1 0 0 2 3;arc 2 1 3 3 5", "1", "states 4;initial 0 1;final 3 1;arc 0 a 1 2;arc 1 - 2 3;arc 2 c 3 5"},
		{"without and behind an empty label", "states 2;initial 0 1;initial 1 1;final 1 1;arc 0 0 1 1 2;arc 1 1 2 1 3", "1",
			"states 4;initial 0 1;initial 1 1;final 3 1;arc 0 a 2 2;arc 1 b 3 3;arc 2 b 3 3"},
		{"a cycle", "states 1;initial 0 1;final 0 1;arc 0 0 1 0 1/2;arc 0 1 2 0 1/3", "1",
			"states 4;initial 0 1;final 2 1;final 3 1;arc 0 a 1 1/2;arc 0 b 2 1/3;arc 1 a 1 1/2;arc 1 b 2 1/3;arc 2 a 3 1/2;arc 3 a 3 1/2"},
		{"a cycle without any label", "states 1;initial 0 1;final 0 1;arc 0 0 0 0 2;arc 0 1 2 0 1/3", "1",
			"states 4;initial 0 1;final 2 1;final 3 1;arc 0 - 1 2;arc 0 b 2 1/3;arc 1 - 1 2;arc 1 b 2 1/3;arc 2 - 3 2;arc 3 - 3 2"},
		{"a cycle of two states", "states 2;initial 0 1;final 0 1;arc 0 0 1 1 2;arc 1 0 2 0 3", "", "states 3;initial 0 1;final 0 1;final 2 1;arc 0 a 1 2;arc 1 b 2 3;arc 2 a 1 2"},
		// The arc without input comes first in the composition.
		{"another order without the input", "states 1;initial 0 1;final 0 1;arc 0 0 3 0 1/2;arc 0 1 1 0 1/3", "1",
			"states 4;initial 0 1;final 2 1;final 3 1;arc 0 a 2 1/3;arc 0 c 1 1/2;arc 1 a 2 1/3;arc 1 c 1 1/2;arc 2 c 3 1/2;arc 3 c 3 1/2"},
	} {
		given := samples.Trans(t, "ring rational;in 2;out 3;"+x.given)
		want := samples.Model(t, "ring rational;symbols a b c;"+x.want)
		for range 2 {
			samples.Expect(t, x.what, applied(t, given, wordOf(x.word)), want)
			slices.Reverse(given.Arcs)
		}
		expectApply(t, x.what, given, wordOf(x.word))
	}
}

func TestApplyByHandOverOtherRings(t *testing.T) {
	for _, x := range []struct{ ring, given, word, want string }{
		{"tropical", "states 2;initial 0 3;final 1 1099511627776;arc 0 1 1 1 1099511627776;arc 0 1 2 1 5;arc 0 1 2 1 2;arc 0 1 3 1 inf", "1",
			"states 2;initial 0 3;final 1 1099511627776;arc 0 a 1 1099511627776;arc 0 b 1 2"},
		{"viterbi", "states 2;initial 0 1/2;final 1 1/3;arc 0 1 1 1 1/5;arc 0 1 1 1 1/4;arc 1 0 2 1 1", "1",
			"states 3;initial 0 1/2;final 1 1/3;final 2 1/3;arc 0 a 1 1/4;arc 1 b 2 1;arc 2 b 2 1"},
		{"sets", "states 2;initial 0 00000000000000ff;final 1 0000000000000f00;arc 0 1 1 1 f000000000000000;arc 0 1 1 1 0f00000000000000", "1",
			"states 2;initial 0 00000000000000ff;final 1 0000000000000f00;arc 0 a 1 ff00000000000000"},
		{"polynomial", "states 2;initial 0 a;final 1 b^5;arc 0 1 1 1 c;arc 0 1 3 1 a-1;arc 0 1 3 1 1", "1", "states 2;initial 0 a;final 1 b^5;arc 0 a 1 c;arc 0 c 1 a"},
		{"product rational tropical", "states 2;initial 0 1/2|inf;final 1 0|3;arc 0 1 1 1 5|inf;arc 0 1 2 1 0|4", "1",
			"states 2;initial 0 1/2|inf;final 1 0|3;arc 0 a 1 5|inf;arc 0 b 1 0|4"},
	} {
		given := samples.Trans(t, "ring "+x.ring+";in 2;out 3;"+x.given)
		samples.Expect(t, x.ring, applied(t, given, wordOf(x.word)), samples.Model(t, "ring "+x.ring+";symbols a b c;"+x.want))
		expectApply(t, x.ring, given, wordOf(x.word))
	}
}

// wordOf reads a word of numbers.
func wordOf(text string) []int {
	var out []int
	for _, symbol := range strings.Fields(text) {
		out = append(out, int(symbol[0]-'0'))
	}
	return out
}

// reader returns the transducer that reads and writes a word alone, in the words of the chapter.
func reader(t *testing.T, c samples.Case, symbols int, word []int) api.Trans {
	t.Helper()
	last := strconv.Itoa(len(word))
	text := "in " + strconv.Itoa(symbols) + ";out " + strconv.Itoa(symbols) + ";states " + strconv.Itoa(len(word)+1) + ";initial 0 one;final " + last + " one"
	for i, symbol := range word {
		label := strconv.Itoa(symbol)
		text += ";arc " + strconv.Itoa(i) + " " + label + " " + label + " " + strconv.Itoa(i+1) + " one"
	}
	return samples.Trans(t, c.Fill(text, 0))
}

// caseOf returns the case of a ring.
func caseOf(t *testing.T, r api.Ring) samples.Case {
	t.Helper()
	for _, c := range samples.Cases() {
		if semiring.Same(c.Ring(t), r) {
			return c
		}
	}
	t.Fatalf("no case: %v", r)
	return samples.Case{}
}

// expectApply checks that Apply returns what becomes of the composition, also if that is an error, and returns it.
func expectApply(t *testing.T, what string, x api.Trans, word []int) api.Auto {
	t.Helper()
	what += ", " + strconv.Itoa(len(word)) + " symbols"
	composition, e := compose.Compose(reader(t, caseOf(t, x.Ring), x.In, word), x)
	if e != api.OK {
		failApply(t, what, x, word, e)
		return api.Auto{}
	}
	got := applied(t, x, word)
	samples.Expect(t, what, got, outSide(composition))
	// No two arcs between the same states have different inputs, because a state tells how much has been read.
	if len(got.Arcs) != len(composition.Arcs) {
		t.Fatalf("%s: %d arcs of %d", what, len(got.Arcs), len(composition.Arcs))
	}
	return got
}

// looping returns a random transducer, any of whose arcs may have empty labels, also in cycles.
func looping(t *testing.T, c samples.Case, choice func(int) int, states int) api.Trans {
	t.Helper()
	x := c.RandomTrans(t, choice, states, choice(6*states))
	for range choice(3) {
		x.Arcs = append(x.Arcs, api.TArc{From: choice(states), Out: choice(2) * choice(4), To: choice(states), Weight: semiring.One(x.Ring)})
	}
	return x
}

func TestApplyOfRandomTransducers(t *testing.T) {
	source := rand.New(rand.NewSource(7))
	for _, c := range samples.Cases() {
		none, arcs, loops := 0, 0, 0
		for range 40 {
			x := looping(t, c, source.Intn, 1+source.Intn(4))
			loops += min(1, len(silent(t, x)))
			shuffled := samples.ShuffledTrans(source.Intn, x)
			for _, word := range samples.Words(t, x.In, 3) {
				got := expectApply(t, c.Line, x, word)
				samples.Expect(t, c.Line+", shuffled", applied(t, shuffled, word), got)
				none += max(0, 1-got.States)
				arcs += len(got.Arcs)
			}
		}
		if none < 50 || none > 500 || arcs < 2000 || loops < 5 {
			t.Errorf("%s: %d automata without states, %d arcs, %d transducers with silent arcs", c.Line, none, arcs, loops)
		}
	}
}

// silent returns the arcs of the normal form with two empty labels that lead to states that are not greater.
func silent(t *testing.T, x api.Trans) []api.TArc {
	t.Helper()
	return slices.DeleteFunc(samples.NormalTrans(t, x).Arcs, func(x api.TArc) bool { return x.In+x.Out > 0 || x.From < x.To })
}

func TestApplyOfLongerWords(t *testing.T) {
	source := rand.New(rand.NewSource(8))
	for _, c := range samples.Cases() {
		beyond, large := 0, 0
		for range 30 {
			x := looping(t, c, source.Intn, 1+source.Intn(3))
			for _, n := range []int{4, 7, 12, 20, 40, 63} {
				word := make([]int, n)
				for i := range word {
					word[i] = 1 + source.Intn(2)
				}
				got := expectApply(t, c.Line, x, word)
				beyond += 1 - min(1, got.Symbols)
				large += min(1, got.States/12)
			}
		}
		if beyond < 5 || large < 10 {
			t.Errorf("%s: %d are beyond the limits, %d large", c.Line, beyond, large)
		}
	}
}

func TestApplyOfIdentity(t *testing.T) {
	// What a transducer of equal words writes for a word is this word, with its weight.
	source := rand.New(rand.NewSource(9))
	for _, c := range samples.Cases() {
		a := c.Random(t, source.Intn, 3, 30, false)
		x := identity(t, a)
		for _, word := range samples.Words(t, 2, 3) {
			got := expectApply(t, c.Line, x, word)
			want, e := weigh.Weight(a, word)
			if e != api.OK {
				t.Fatal(e)
			}
			for _, other := range samples.Words(t, 2, 3) {
				w, e := weigh.Weight(got, other)
				if e != api.OK || !semiring.Equal(w, want) && slices.Equal(other, word) || !semiring.Equal(w, semiring.Zero(a.Ring)) && !slices.Equal(other, word) {
					t.Fatalf("%s: %v: %v has the weight %s, %v: %s", c.Line, word, other, semiring.Format(a.Ring, w), e, samples.Shown(got))
				}
			}
		}
	}
}

func TestAlphabetsOfApply(t *testing.T) {
	for _, c := range samples.Cases() {
		r := c.Ring(t)
		for in := 1; in <= api.MaxSymbols; in++ {
			out := 1 + in*5%api.MaxSymbols
			one := semiring.One(r)
			x := api.Trans{Ring: r, In: in, Out: out, States: 1, Initial: []api.Weight{one}, Final: []api.Weight{one}}
			x.Arcs = []api.TArc{{In: in, Out: out, Weight: one}}
			want := samples.Sized(r, 2, 0)
			want.Symbols, want.Initial[1], want.Final[0] = out, semiring.Zero(r), semiring.Zero(r)
			want.Arcs = []api.Arc{{From: 0, Label: out, To: 1, Weight: one}}
			if !transducer.Valid(x) {
				t.Fatal(samples.ShownTrans(x))
			}
			samples.Expect(t, c.Line, applied(t, x, []int{in}), want)
			failApply(t, c.Line, x, []int{in + 1}, api.ErrLabels)
		}
	}
}
