// Package samples contains what the tests of several layers share: rings with weights of theirs, models in short texts, and words. No layer uses it.
package samples

import (
	"slices"
	"strconv"
	"strings"

	"weighted/api"
	"weighted/modeltext"
	"weighted/semiring"
	"weighted/words"
)

// Test is what the functions need of a test. It fails where they are called with a text that is wrong.
type Test interface {
	Helper()
	Fatalf(format string, arguments ...any)
}

// Case is the line of a ring with its weights Zero and One, with small weights, of which any dozen converges as weights of empty labels, with wide ones, which do not converge in a loop, with others, and with some that have the sum Zero.
type Case struct {
	Line, Zero, One           string
	Small, Wide, Others, Gone []string
}

// Cases returns a ring of each kind, and products. Some of their weights are Zero in one part alone, and some have a product that is Zero.
func Cases() []Case {
	return []Case{
		{"ring rational", "0", "1", []string{"1/20", "-1/17", "3/70", "1/35"}, []string{"1", "-1", "7/3", "-2"}, []string{"1", "-7/3", "2", "1/6"}, []string{"1/2", "1/3", "-5/6"}},
		{"ring tropical", "inf", "0", []string{"0", "3", "1099511627776", "1"}, nil, []string{"0", "2", "1099511627774", "5"}, []string{"inf", "inf"}},
		{"ring viterbi", "0", "1", []string{"1", "1/2", "2/3", "1/5"}, nil, []string{"1", "1/3", "98765432109876543210/98765432109876543211"}, []string{"0", "0", "0"}},
		{"ring sets", "0000000000000000", "ffffffffffffffff", []string{"000000000000000f", "00000000000000f8", "ffffffffffffffff"}, nil, []string{"ffffffffffffffff", "00000000000000ff", "8000000000000f00"}, []string{"0000000000000000"}},
		{"ring polynomial", "0", "1", []string{"1/20", "a-1/17", "5*b^3", "c^2+1/35"}, []string{"1", "a-1", "-b+7/3", "2"}, []string{"1", "-a", "a^3*b-1/2", "c+2/3"}, []string{"a+1", "-a", "-1"}},
		{"ring product rational tropical", "0|inf", "1|0", []string{"1/20|inf", "-1/17|3", "0|0", "1/35|1"}, []string{"1|inf", "-1|0", "2|5"}, []string{"1|0", "0|7", "-7/3|inf", "1/2|1099511627775"}, []string{"1/2|inf", "-1/2|inf"}},
		{"ring product rational rational", "0|0", "1|1", []string{"1/20|-1/17", "0|1/19", "1/35|0"}, []string{"1|0", "0|-1", "1/20|2"}, []string{"1|1", "3|0", "0|-7/3", "1/2|-1/2"}, []string{"1|2", "-1|0", "0|-2"}},
		{"ring product viterbi sets polynomial", "0|0000000000000000|0", "1|ffffffffffffffff|1", []string{"1/2|000000000000000f|a", "0|00000000000000ff|b-1/20", "1|0000000000000000|1/35"}, []string{"0|0000000000000000|1", "1/2|ffffffffffffffff|a-1"},
			[]string{"1|ffffffffffffffff|1", "0|0000000000000f00|0", "1/3|00000000000000f0|a-2"}, []string{"0|0000000000000000|-b", "0|0000000000000000|b"}},
	}
}

// Lines returns lines of rings no two of which are the same: those of all cases, and of products that are like theirs.
func Lines() []string {
	lines := []string{
		"ring product tropical rational", "ring product rational tropical rational", "ring product rational tropical tropical",
		"ring product viterbi polynomial sets", "ring product sets viterbi polynomial", "ring product viterbi sets",
		"ring product rational polynomial", "ring product tropical tropical",
	}
	for _, c := range Cases() {
		lines = append(lines, c.Line)
	}
	return lines
}

// Cancelling returns lines of rings with weights of which sums are Zero.
func Cancelling() []Case {
	return []Case{
		{Line: "ring rational", Zero: "0", One: "1", Others: []string{"1", "-1"}},
		{Line: "ring rational", Zero: "0", One: "1", Others: []string{"1/2", "-1/2", "1/2", "-1"}},
		{Line: "ring polynomial", Zero: "0", One: "1", Others: []string{"1", "-1", "a^2", "-a^2"}},
		{Line: "ring product rational tropical", Zero: "0|inf", One: "1|0", Others: []string{"1|inf", "-1|inf"}},
		{Line: "ring product rational rational", Zero: "0|0", One: "1|1", Others: []string{"1|1", "-1|-1", "1|0", "0|-1", "-1|1"}},
		{Line: "ring product viterbi sets polynomial", Zero: "0|0000000000000000|0", One: "1|ffffffffffffffff|1", Others: []string{"0|0000000000000000|1", "0|0000000000000000|-1"}},
	}
}

// Fill returns the text of a model from that of a template, in which zero and one stand for Zero and One, s0, s1, .. for small weights, x0, x1, .. for wide and w0, w1, .. for other ones, those with the numbers shift, shift + 1, .. and so on in turn. A line "gone 0 a 1" stands for arcs that the normal form leaves out.
func (c Case) Fill(template string, shift int) string {
	lines := []string{c.Line}
	for _, line := range strings.Split(template, ";") {
		start := strings.LastIndex(line, " ") + 1
		if ends, isGone := strings.CutPrefix(line, "gone "); isGone {
			for _, text := range c.Gone {
				lines = append(lines, "arc "+ends+" "+text)
			}
			continue
		}
		lines = append(lines, line[:start]+c.Text(line[start:], shift))
	}
	return strings.Join(lines, ";")
}

// Text returns the text of the weight that a word of a template stands for, or the word.
func (c Case) Text(word string, shift int) string {
	switch word {
	case "zero":
		return c.Zero
	case "one":
		return c.One
	case "":
		return ""
	}
	var list []string
	switch word[0] {
	case 's':
		list = c.Small
	case 'x':
		list = c.Wide
	case 'w':
		list = c.Others
	}
	i, err := strconv.Atoi(word[1:])
	if err != nil || len(list) == 0 {
		return word
	}
	return list[(i+shift)%len(list)]
}

// Ring returns the ring that the line names.
func (c Case) Ring(t Test) api.Ring {
	t.Helper()
	return Model(t, c.Line+";symbols a;states 0").Ring
}

// Weights returns Zero, One, and all other weights but the wide ones.
func (c Case) Weights(t Test) []api.Weight {
	t.Helper()
	var out []api.Weight
	for _, text := range slices.Concat([]string{c.Zero, c.One}, c.Small, c.Others, c.Gone) {
		out = append(out, c.Weight(t, text))
	}
	return out
}

// Weight reads a weight of the ring.
func (c Case) Weight(t Test, text string) api.Weight {
	t.Helper()
	w, ok := semiring.Parse(c.Ring(t), text)
	if !ok {
		t.Fatalf("%s: no weight: %s", c.Line, text)
	}
	return w
}

// Model reads a model. Its lines are separated by semicolons.
func Model(t Test, text string) api.Auto {
	t.Helper()
	a, _, line, e := modeltext.Parse(strings.ReplaceAll(text, ";", "\n"))
	if e != api.OK {
		t.Fatalf("line %d: %v: %s", line, e, text[:min(len(text), 1000)])
	}
	return a
}

// Shown writes an automaton, or the first part of it, for messages.
func Shown(a api.Auto) string {
	var out strings.Builder
	out.WriteString("ring " + strconv.Itoa(a.Ring.Kind))
	for _, kind := range a.Ring.Parts {
		out.WriteString(" " + strconv.Itoa(kind))
	}
	out.WriteString(", " + strconv.Itoa(a.Symbols) + " symbols")
	for i := range min(len(a.Initial), len(a.Final)) {
		out.WriteString("; " + strconv.Itoa(i) + ": " + semiring.Format(a.Ring, a.Initial[i]) + ", " + semiring.Format(a.Ring, a.Final[i]))
	}
	for _, x := range a.Arcs {
		out.WriteString("; " + strconv.Itoa(x.From) + " " + strconv.Itoa(x.Label) + " " + strconv.Itoa(x.To) + " " + semiring.Format(a.Ring, x.Weight))
	}
	return out.String()[:min(out.Len(), 1000)]
}

// Same compares all fields of two automata.
func Same(a, b api.Auto) bool {
	return a.Ring.Kind == b.Ring.Kind && slices.Equal(a.Ring.Parts, b.Ring.Parts) && a.Symbols == b.Symbols && a.States == b.States &&
		slices.EqualFunc(a.Initial, b.Initial, semiring.Equal) && slices.EqualFunc(a.Final, b.Final, semiring.Equal) &&
		slices.EqualFunc(a.Arcs, b.Arcs, func(x, y api.Arc) bool {
			return x.From == y.From && x.Label == y.Label && x.To == y.To && semiring.Equal(x.Weight, y.Weight)
		})
}

// Words returns the words up to a length, in their order.
func Words(t Test, symbols, most int) [][]int {
	t.Helper()
	var out [][]int
	for word := []int(nil); len(word) <= most; {
		out = append(out, word)
		next, e := words.Next(word, symbols)
		if e != api.OK {
			t.Fatalf("no word behind %v: %v", word, e)
		}
		word = next
	}
	return out
}
