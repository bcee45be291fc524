package samples

import (
	"slices"
	"strconv"
	"strings"

	"weighted/api"
	"weighted/semiring"
	"weighted/transducer"
)

// Trans reads a transducer. Its text is that of a model with two lines in place of that of the symbols, which tell how many there are: "in 2" and "out 3". An arc has two labels, which are numbers: "arc 0 1 2 3 1/2" leads from 0 with the labels 1 : 2 to 3.
func Trans(t Test, text string) api.Trans {
	t.Helper()
	var out api.Trans
	var frame []string
	var arcs [][]int
	var weights []string
	for _, line := range strings.Split(text, ";") {
		words := strings.Fields(line)
		switch words[0] {
		case "in":
			out.In = numbers(t, words[1:])[0]
		case "out":
			out.Out = numbers(t, words[1:])[0]
		case "arc":
			arcs = append(arcs, numbers(t, words[1:5]))
			weights = append(weights, words[5])
		default:
			frame = append(frame, line)
		}
	}
	a := Model(t, strings.Join(slices.Insert(frame, 1, "symbols a"), ";"))
	out.Ring, out.States, out.Initial, out.Final = a.Ring, a.States, a.Initial, a.Final
	for i, x := range arcs {
		w, ok := semiring.Parse(a.Ring, weights[i])
		if !ok {
			t.Fatalf("no weight: %s: %s", weights[i], text)
		}
		out.Arcs = append(out.Arcs, api.TArc{From: x[0], In: x[1], Out: x[2], To: x[3], Weight: w})
	}
	return out
}

// numbers reads numbers.
func numbers(t Test, words []string) []int {
	t.Helper()
	var out []int
	for _, word := range words {
		n, err := strconv.Atoi(word)
		if err != nil {
			t.Fatalf("no number: %s", word)
		}
		out = append(out, n)
	}
	return out
}

// ShownTrans writes a transducer, or the first part of it, for messages.
func ShownTrans(x api.Trans) string {
	var out strings.Builder
	out.WriteString("in " + strconv.Itoa(x.In) + ", out " + strconv.Itoa(x.Out) + ": " + Shown(api.Auto{Ring: x.Ring, Symbols: x.States, Initial: x.Initial, Final: x.Final}))
	for _, arc := range x.Arcs {
		out.WriteString("; " + strconv.Itoa(arc.From) + " " + strconv.Itoa(arc.In) + ":" + strconv.Itoa(arc.Out) + " " + strconv.Itoa(arc.To) + " " + semiring.Format(x.Ring, arc.Weight))
	}
	return out.String()[:min(out.Len(), 1000)]
}

// SameTrans compares all fields of two transducers.
func SameTrans(x, y api.Trans) bool {
	return x.In == y.In && x.Out == y.Out && len(x.Arcs) == len(y.Arcs) &&
		Same(labelled(x, func(x api.TArc) int { return x.In }), labelled(y, func(x api.TArc) int { return x.In })) &&
		Same(labelled(x, func(x api.TArc) int { return x.Out }), labelled(y, func(x api.TArc) int { return x.Out }))
}

// labelled returns the automaton with the arcs of a transducer, which a function gives their labels.
func labelled(x api.Trans, label func(x api.TArc) int) api.Auto {
	out := api.Auto{Ring: x.Ring, States: x.States, Initial: x.Initial, Final: x.Final}
	for _, arc := range x.Arcs {
		out.Arcs = append(out.Arcs, api.Arc{From: arc.From, Label: label(arc), To: arc.To, Weight: arc.Weight})
	}
	return out
}

// Reading returns the transducer that reads what an automaton does, and writes nothing over an alphabet of so many symbols.
func Reading(a api.Auto, out int) api.Trans {
	x := Copying(a)
	x.Out = out
	for i := range x.Arcs {
		x.Arcs[i].Out = 0
	}
	return x
}

// Copying returns the transducer that writes each symbol that it reads.
func Copying(a api.Auto) api.Trans {
	out := api.Trans{Ring: a.Ring, In: a.Symbols, Out: a.Symbols, States: a.States, Initial: a.Initial, Final: a.Final}
	for _, x := range a.Arcs {
		out.Arcs = append(out.Arcs, api.TArc{From: x.From, In: x.Label, Out: x.Label, To: x.To, Weight: x.Weight})
	}
	return out
}

// Turned returns the transducer that reads what another one writes, and writes what it reads.
func Turned(x api.Trans) api.Trans {
	x.In, x.Out = x.Out, x.In
	x.Arcs = slices.Clone(x.Arcs)
	for i, arc := range x.Arcs {
		x.Arcs[i].In, x.Arcs[i].Out = arc.Out, arc.In
	}
	return x
}

// InvalidTrans returns transducers that are not valid, each for one reason, which names it.
func (c Case) InvalidTrans(t Test) map[string]api.Trans {
	t.Helper()
	out := map[string]api.Trans{"zero value": {}}
	for what, a := range c.Invalid(t) {
		out[what+", in"] = Reading(a, 3)
		out[what+", out"] = Turned(Reading(a, 3))
		out[what+", in and out"] = Copying(a)
	}
	// A label may be a symbol of the other side.
	wide := Trans(t, c.Fill("in 2;out 5;states 2;arc 0 2 5 1 w0;arc 1 2 2 1 one", 0))
	wide.Arcs[1].In = 3
	out["a label of the other side, in"] = wide
	out["a label of the other side, out"] = Turned(wide)
	return out
}

// SizedTrans returns a transducer over MaxSymbols symbols on both sides with so many states and arcs, all of whose weights are One, and no two of whose arcs have the same ends and label In.
func SizedTrans(r api.Ring, states, arcs int) api.Trans {
	x := Reading(Sized(r, states, arcs), api.MaxSymbols)
	for i := range x.Arcs {
		x.Arcs[i].Out = api.MaxSymbols - i%3
	}
	return x
}

// RandomTrans returns a transducer over two and three symbols with so many states and arcs that a choice of numbers below n makes, some of them with the weight Zero, or with the same ends and labels as others. Arcs with two empty labels lead to states with greater numbers only, but for those that have the sum Zero.
func (c Case) RandomTrans(t Test, choice func(n int) int, states, size int) api.Trans {
	t.Helper()
	template := "in 2;out 3;states " + strconv.Itoa(states)
	weight := func() string {
		if choice(4) == 0 {
			return " zero"
		}
		return " w" + strconv.Itoa(choice(9))
	}
	for i := range states {
		at := " " + strconv.Itoa(i)
		template += ";initial" + at + weight() + ";final" + at + weight()
	}
	for range size {
		from, in, out, to := choice(states), choice(3), choice(4), choice(states)
		if in+out == 0 && from >= to {
			out = 1
		}
		template += ";arc " + strconv.Itoa(from) + " " + strconv.Itoa(in) + " " + strconv.Itoa(out) + " " + strconv.Itoa(to) + weight()
	}
	if states > 0 {
		template += ";gone " + strconv.Itoa(choice(states)) + " 0 0 " + strconv.Itoa(choice(states)) + ";gone 0 1 0 " + strconv.Itoa(choice(states))
	}
	return Trans(t, c.Fill(template, 0))
}

// ShuffledTrans returns a transducer with its arcs in another order, which a choice of numbers below n makes.
func ShuffledTrans(choice func(n int) int, x api.Trans) api.Trans {
	x.Arcs = slices.Clone(x.Arcs)
	shuffle(choice, x.Arcs)
	return x
}

// Pairs calls a function with all pairs of words up to a length that a transducer may have.
func Pairs(t Test, x api.Trans, most int, check func(in, out []int)) {
	t.Helper()
	for _, in := range Words(t, x.In, most) {
		for _, out := range Words(t, x.Out, most) {
			check(in, out)
		}
	}
}

// NormalTrans returns the normal form of a transducer that is valid.
func NormalTrans(t Test, x api.Trans) api.Trans {
	t.Helper()
	n, e := transducer.Normal(x)
	if e != api.OK || !transducer.Valid(n) {
		t.Fatalf("%s: no normal form: %v", ShownTrans(x), e)
	}
	return n
}

// PairWeight returns the weight that a transducer gives two words.
func PairWeight(t Test, x api.Trans, in, out []int) api.Weight {
	t.Helper()
	w, e := transducer.Weight(x, in, out)
	if e != api.OK || !semiring.Check(x.Ring, w) {
		t.Fatalf("%s: no weight of %v : %v: %v", ShownTrans(x), in, out, e)
	}
	return w
}

// ExpectPair checks the weight that a transducer gives two words.
func ExpectPair(t Test, what string, x api.Trans, in, out []int, want api.Weight) {
	t.Helper()
	if got := PairWeight(t, x, in, out); !semiring.Equal(got, want) {
		t.Fatalf("%s: %v : %v has the weight %s, not %s: %s", what, in, out, semiring.Format(x.Ring, got), semiring.Format(x.Ring, want), ShownTrans(x))
	}
}
