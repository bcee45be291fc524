package project_test

import (
	"math"
	"slices"
	"testing"

	"weighted/api"
	"weighted/project"
	"weighted/samples"
	"weighted/semiring"
)

// wrongWords are no words over 2 symbols.
func wrongWords() [][]int {
	long := slices.Repeat([]int{1}, api.MaxWord+1)
	return [][]int{
		{0}, {-1}, {3}, {4}, {33}, {1, 0}, {0, 1}, {1, 2, 3, 1}, {math.MinInt}, {math.MaxInt}, {1<<32 + 1}, long, slices.Repeat(long, 3), make([]int, api.MaxWord+1),
		append(slices.Repeat([]int{1}, api.MaxStates-2), 3), append(slices.Repeat([]int{1}, api.MaxStates-1), 3), append([]int{3}, long[2:]...), append([]int{3}, long...),
	}
}

// tooLong are words over 2 symbols that are too long for Apply.
func tooLong() [][]int {
	return [][]int{slices.Repeat([]int{1}, api.MaxStates), slices.Repeat([]int{2, 1}, 33), slices.Repeat([]int{2}, 128), slices.Repeat([]int{1}, api.MaxWord-1), slices.Repeat([]int{2}, api.MaxWord)}
}

// failAll checks that all functions of a transducer answer ErrForm, whatever the word is.
func failAll(t *testing.T, what string, x api.Trans) {
	t.Helper()
	out, e := project.Input(x)
	samples.Fail(t, "Input, "+what, out, e, api.ErrForm)
	out, e = project.Output(x)
	samples.Fail(t, "Output, "+what, out, e, api.ErrForm)
	turned, e := project.Invert(x)
	samples.FailTrans(t, "Invert, "+what, turned, e, api.ErrForm)
	for _, word := range slices.Concat([][]int{nil, {}, {1}, {1, 2}}, wrongWords(), tooLong()) {
		failApply(t, "Apply, "+what, x, word, api.ErrForm)
	}
}

func TestWhatIsNotValid(t *testing.T) {
	for _, c := range samples.Cases() {
		for what, x := range c.InvalidTrans(t) {
			failAll(t, c.Line+": "+what, x)
		}
		for what, a := range c.Invalid(t) {
			out, e := project.Identity(a)
			samples.FailTrans(t, c.Line+": "+what, out, e, api.ErrForm)
		}
	}
}

func TestNumbersThatAreOutOfRange(t *testing.T) {
	for _, c := range samples.Cases() {
		good := samples.Trans(t, c.Fill("in 2;out 3;states 4;initial 0 one;final 3 w1;arc 0 0 0 1 w0;arc 1 2 0 2 w2;arc 2 0 3 3 w3;arc 3 1 1 0 one", 0))
		expectSides(t, c.Line, good)
		applied(t, good, []int{2})
		for _, n := range []int{-1, -2, math.MinInt, math.MaxInt, 1 << 32, 1<<32 + 1, 65, 33} {
			for what, change := range map[string]func(x *api.Trans){
				"In":          func(x *api.Trans) { x.In = n },
				"Out":         func(x *api.Trans) { x.Out = n },
				"both":        func(x *api.Trans) { x.In, x.Out = n, n },
				"States":      func(x *api.Trans) { x.States = n },
				"Kind":        func(x *api.Trans) { x.Ring.Kind = n },
				"arc from":    func(x *api.Trans) { x.Arcs[1].From = n },
				"arc in":      func(x *api.Trans) { x.Arcs[1].In = n },
				"arc out":     func(x *api.Trans) { x.Arcs[1].Out = n },
				"arc to":      func(x *api.Trans) { x.Arcs[1].To = n },
				"arc labels":  func(x *api.Trans) { x.Arcs[2].In, x.Arcs[2].Out = n, n },
				"first label": func(x *api.Trans) { x.Arcs[0].In = n },
			} {
				x := good
				x.Arcs = slices.Clone(good.Arcs)
				change(&x)
				failAll(t, c.Line+": "+what, x)
			}
		}
	}
}

func TestWeightsThatAreWrittenInOtherWays(t *testing.T) {
	two, three := []uint32{2}, []uint32{3}
	for what, q := range map[string]api.Rat{
		"not in lowest terms": {Num: two, Den: []uint32{6}}, "1 below": {Num: two, Den: []uint32{1}}, "0 below": {Num: two, Den: []uint32{0}},
		"a limb 0 above": {Num: []uint32{2, 0}, Den: three}, "a limb 0 below": {Num: two, Den: []uint32{3, 0}}, "-0": {Neg: true}, "0 above": {Num: []uint32{0}}, "0/3": {Den: three},
	} {
		for place := range 3 {
			a := samples.Model(t, "ring rational;symbols a b;states 1;initial 0 2/3;final 0 2/3;arc 0 a 0 2/3")
			[]*api.Weight{&a.Initial[0], &a.Final[0], &a.Arcs[0].Weight}[place].Q = q
			out, e := project.Identity(a)
			samples.FailTrans(t, what, out, e, api.ErrForm)
			failAll(t, what, samples.Copying(a))
		}
	}
	// Only what is empty may be written in two ways.
	for _, c := range samples.Cases() {
		for shift := range 4 {
			a := samples.Model(t, c.Fill("symbols a b;states 2;initial 0 w0;final 1 w1;arc 0 a 1 w2;arc 1 - 1 w3", shift))
			want := samples.NormalTrans(t, samples.Copying(a))
			b := full(a)
			expectIdentity(t, c.Line, b, want)
			x := samples.Copying(b)
			samples.Expect(t, c.Line, input(t, x), samples.Normal(t, a))
			samples.Expect(t, c.Line, output(t, x), samples.Normal(t, a))
			samples.ExpectTrans(t, c.Line, invert(t, x), want)
			samples.Expect(t, c.Line, applied(t, x, []int{1}), applied(t, want, []int{1}))
		}
	}
}

// full returns an automaton with empty lists in place of those that are nil.
func full(a api.Auto) api.Auto {
	var weight func(w api.Weight) api.Weight
	number := func(x api.Rat) api.Rat {
		x.Num, x.Den = append([]uint32{}, x.Num...), append([]uint32{}, x.Den...)
		return x
	}
	weight = func(w api.Weight) api.Weight {
		w.Q, w.Poly, w.Parts = number(w.Q), append([]api.Monomial{}, w.Poly...), append([]api.Weight{}, w.Parts...)
		for i := range w.Poly {
			w.Poly[i].Coef = number(w.Poly[i].Coef)
		}
		for i := range w.Parts {
			w.Parts[i] = weight(w.Parts[i])
		}
		return w
	}
	out := a
	out.Ring.Parts, out.Initial, out.Final, out.Arcs = append([]int{}, a.Ring.Parts...), slices.Clone(a.Initial), slices.Clone(a.Final), slices.Clone(a.Arcs)
	for i := range a.States {
		out.Initial[i], out.Final[i] = weight(a.Initial[i]), weight(a.Final[i])
	}
	for i := range a.Arcs {
		out.Arcs[i].Weight = weight(a.Arcs[i].Weight)
	}
	return out
}

func TestWordsThatAreNotValid(t *testing.T) {
	for _, c := range samples.Cases() {
		for _, text := range []string{
			"in 2;out 3;states 1;initial 0 one;final 0 one;arc 0 1 0 0 one;arc 0 0 1 0 one;arc 0 0 3 0 one;arc 0 2 0 0 one",
			"in 2;out 3;states 2;initial 0 one;final 1 one;arc 0 1 3 1 w0;arc 0 0 0 1 w1",
			"in 2;out 32;states 1",
			"in 2;out 1;states 0",
		} {
			x := samples.Trans(t, c.Fill(text, 0))
			for _, word := range wrongWords() {
				failApply(t, c.Line, x, word, api.ErrLabels)
			}
			for _, word := range tooLong() {
				failApply(t, c.Line, x, word, api.ErrLimit)
			}
			// A symbol of what is written is none of what is read.
			failApply(t, c.Line, x, []int{3}, api.ErrLabels)
			failApply(t, c.Line, x, []int{2, 3, 1}, api.ErrLabels)
			expectApply(t, c.Line, x, []int{2})
			if x.Out >= 3 {
				expectApply(t, c.Line, samples.Turned(x), []int{3})
				failApply(t, c.Line, samples.Turned(x), []int{x.Out + 1}, api.ErrLabels)
			}
		}
	}
}

func TestLengthsOfWords(t *testing.T) {
	for _, c := range samples.Cases() {
		r := c.Ring(t)
		copying := samples.Trans(t, c.Fill("in 1;out 1;states 1;initial 0 one;final 0 w1;arc 0 1 1 0 one", 0))
		none := api.Trans{Ring: r, In: 1, Out: 1}
		for n := range api.MaxWord + 20 {
			word := slices.Repeat([]int{1}, n)
			for _, x := range []api.Trans{copying, none} {
				switch {
				case n > api.MaxWord:
					failApply(t, c.Line, x, word, api.ErrLabels)
				case n > 63:
					failApply(t, c.Line, x, word, api.ErrLimit)
				default:
					expectSize(t, c.Line, x, word, min(1, x.States)*(n+1), min(1, x.States)*n)
				}
			}
		}
	}
}

func TestErrorsInTheirOrder(t *testing.T) {
	short, long, wrong, wrongAndLong := []int{1}, slices.Repeat([]int{1}, api.MaxStates), []int{1, 4}, append(slices.Repeat([]int{1}, api.MaxStates), 4)
	for _, c := range samples.Cases() {
		r := c.Ring(t)
		small := samples.Trans(t, c.Fill("in 3;out 4;states 2;initial 0 one;final 1 one;arc 0 1 4 1 one", 0))
		// With one symbol, all pairs of 64 and 2 states are useful.
		large := bare(r, 64, 64, 64)
		for i := range 64 {
			large = with(large, [4]int{i, 1, 1, i})
		}
		broken, torn := small, large
		broken.Final, torn.Initial = broken.Final[1:], torn.Initial[1:]
		for _, v := range []struct {
			x    api.Trans
			word []int
			want api.Errno
		}{
			{small, long, api.ErrLimit},
			{small, wrong, api.ErrLabels},
			{small, wrongAndLong, api.ErrLabels},
			{large, short, api.ErrLimit},
			{large, long, api.ErrLimit},
			{large, wrong, api.ErrLabels},
			{large, wrongAndLong, api.ErrLabels},
			{large, make([]int, api.MaxWord+1), api.ErrLabels},
			{large, slices.Repeat(short, api.MaxWord+1), api.ErrLabels},
			{broken, short, api.ErrForm},
			{broken, long, api.ErrForm},
			{broken, wrong, api.ErrForm},
			{broken, wrongAndLong, api.ErrForm},
			{torn, short, api.ErrForm},
			{torn, long, api.ErrForm},
			{torn, wrong, api.ErrForm},
			{torn, wrongAndLong, api.ErrForm},
			{api.Trans{}, nil, api.ErrForm},
			{api.Trans{}, wrongAndLong, api.ErrForm},
		} {
			failApply(t, c.Line, v.x, v.word, v.want)
		}
		expectSize(t, c.Line, small, short, 2, 1)
		expectSize(t, c.Line, large, nil, 64, 0)
	}
}

func TestResultsAreNewMemory(t *testing.T) {
	// All else of this is in folder rules: here stand the ways in which a weight could be that of an argument.
	for _, c := range samples.Cases() {
		for shift := range 4 {
			x := samples.Trans(t, c.Fill("in 1;out 1;states 2;initial 0 w0;final 1 w0;arc 0 1 1 1 w0;arc 0 1 0 1 w0;arc 1 0 1 0 w0", shift))
			a := samples.Model(t, c.Fill("symbols a;states 2;initial 0 w0;final 1 w0;arc 0 a 1 w0;arc 1 - 0 w0", shift))
			one := semiring.Format(x.Ring, semiring.One(x.Ring))
			before := samples.ShownTrans(x) + samples.Shown(a)
			overwrite := func() (shown string) {
				for _, got := range []api.Auto{input(t, x), output(t, x), applied(t, x, nil), applied(t, x, []int{1}), applied(t, x, []int{1, 1})} {
					shown += samples.Shown(got)
					samples.OverwriteAll(got)
				}
				for _, got := range []api.Trans{invert(t, x), identity(t, a)} {
					shown += samples.ShownTrans(got)
					samples.OverwriteTrans(got)
				}
				return shown
			}
			first := overwrite()
			if second := overwrite(); second != first {
				t.Fatalf("%s: %s became %s", c.Line, first, second)
			}
			if after := samples.ShownTrans(x) + samples.Shown(a); after != before {
				t.Fatalf("%s: %s became %s", c.Line, before, after)
			}
			if text := semiring.Format(x.Ring, semiring.One(x.Ring)); text != one {
				t.Fatalf("%s: One is %s", c.Line, text)
			}
		}
	}
}
