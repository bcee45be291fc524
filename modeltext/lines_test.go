package modeltext

import (
	"math/rand"
	"strconv"
	"strings"
	"testing"

	"weighted/api"
)

func TestExample(t *testing.T) {
	text := join("ring tropical", "symbols a b", "states 2", "initial 0 0", "final 1 0", "arc 0 a 1 3", "arc 1 - 0 inf")
	inf := api.Weight{Inf: true}
	want := api.Auto{Ring: api.Ring{Kind: api.Tropical}, Symbols: 2, States: 2, Initial: []api.Weight{{}, inf}, Final: []api.Weight{inf, {}},
		Arcs: []api.Arc{{From: 0, Label: 1, To: 1, Weight: api.Weight{Cost: 3}}, {From: 1, Label: 0, To: 0, Weight: inf}}}
	checkParse(t, text, want, []string{"a", "b"})
	checkFormat(t, want, []string{"a", "b"}, text)
}

func TestWeights(t *testing.T) {
	for _, s := range ringCases() {
		for _, text := range s.texts {
			want := blank(s.ring, 2, 3)
			want.Initial[2] = read(t, s.ring, text)
			want.Final[0] = want.Initial[2]
			want.Arcs = []api.Arc{{From: 2, Label: 2, To: 0, Weight: want.Initial[2]}}
			checkParse(t, join("ring "+s.words, "symbols a b", "states 3", "final 0 "+text, "arc 2 b 0 "+text, "initial 2 "+text), want, []string{"a", "b"})
		}
		for _, text := range s.wrong {
			for _, line := range []string{"initial 0 ", "final 2 ", "arc 0 a 2 ", "arc 2 - 0 "} {
				checkError(t, join("ring "+s.words, "symbols a b", "states 3", line+text), 4, api.ErrForm)
			}
		}
	}
	// As many digits as a number may have.
	long := strings.Repeat("7", api.MaxDigits)
	a, _, _, e := Parse(model("initial 0 "+long, "arc 0 a 0 1/"+long))
	if e != api.OK || len(a.Arcs) != 1 || len(a.Initial[0].Q.Num) != 208 {
		t.Errorf("long numbers: %v", e)
	}
}

func TestOrderOfLines(t *testing.T) {
	lines := []string{"initial 0 1", "arc 0 a 1 2", "final 2 3", "arc 0 a 1 -2", "initial 2 4", "arc 2 - 0 0", "final 0 5", "arc 0 a 1 2"}
	r := api.Ring{Kind: api.Rational}
	source := rand.New(rand.NewSource(1))
	for range 50 {
		want := blank(r, 2, 3)
		want.Initial[0], want.Initial[2] = read(t, r, "1"), read(t, r, "4")
		want.Final[0], want.Final[2] = read(t, r, "5"), read(t, r, "3")
		for _, line := range lines {
			words := strings.Fields(line)
			if words[0] != "arc" {
				continue
			}
			x := api.Arc{From: int(words[1][0] - '0'), Label: strings.Index("-ab", words[2]), To: int(words[3][0] - '0'), Weight: read(t, r, words[4])}
			want.Arcs = append(want.Arcs, x)
		}
		checkParse(t, model(lines...), want, []string{"a", "b"})
		source.Shuffle(len(lines), func(i, j int) { lines[i], lines[j] = lines[j], lines[i] })
	}
}

func TestBlanks(t *testing.T) {
	plain := model("initial 0 1", "arc 0 a 1 2", "final 1 3")
	for _, text := range []string{
		strings.TrimSuffix(plain, "\n"),
		plain + "\n", plain + " ", plain + "#", plain + "\t#\n", plain + "\n\n\n# arc\n",
		"\n" + plain, "#\n" + plain, " \t \n# ring tropical\n\t#\n" + plain,
		strings.ReplaceAll(plain, "\n", "\n\n"),
		strings.ReplaceAll(plain, "\n", "\n \n"),
		strings.ReplaceAll(plain, "\n", "\n#\n"),
		strings.ReplaceAll(plain, "\n", "#\n"),
		strings.ReplaceAll(plain, "\n", " # \n"),
		strings.ReplaceAll(plain, "\n", "# arc 0 a 1 2 # # x \r \xff\n"),
		strings.ReplaceAll(plain, "\n", "\n\t \t# arc 0 a 1 2\n"),
		strings.ReplaceAll(plain, "\n", " \n"),
		strings.ReplaceAll(plain, "\n", "\t\n"),
		strings.ReplaceAll(plain, "\n", "\n "),
		strings.ReplaceAll(plain, "\n", "\n\t"),
		strings.ReplaceAll(plain, " ", "  "),
		strings.ReplaceAll(plain, " ", "\t"),
		strings.ReplaceAll(plain, " ", " \t \t"),
	} {
		checkLike(t, text, plain)
	}
	// Inside a word, # ends it.
	checkLike(t, model("initial 0 1#2", "final 1 2# 3"), model("initial 0 1", "final 1 2"))
	checkError(t, model("initial 0# 1"), 4, api.ErrSyntax)
	checkError(t, model("arc 0 a #1 2"), 4, api.ErrSyntax)
	// Only spaces and tabs stand between words, and only a line feed ends a line.
	for _, other := range []string{"\r", "\v", "\f", "\u00a0", "\u2003", "\u0085", "\u2028", "\x00", "\x1f", "\xff", ","} {
		checkError(t, model("initial 0"+other+"1"), 4, api.ErrSyntax)
		checkError(t, model("initial 0 1"+other), 4, api.ErrForm)
		checkError(t, model("arc 0 a 1 2"+other+"arc 0 a 1 2"), 4, api.ErrSyntax)
		checkError(t, model(other), 4, api.ErrSyntax)
		checkError(t, other+model(), 1, api.ErrSyntax)
		checkLike(t, model("#"+other), model())
	}
}

func TestForms(t *testing.T) {
	for _, line := range []string{"initial", "initial 0", "initial 0 1 1", "initial 0 1 #", "final", "final 0", "final 0 1 1", "arc", "arc 0", "arc 0 a", "arc 0 a 0", "arc 0 a 0 1 1", "arc 0 a b 0 1", "x", "initials 0 1", "Initial 0 1", "end 0 1", "arcs 0 a 0 1", "ARC 0 a 0 1", "ring rational", "symbols a b", "states 3", "0 a 0 1", "-", "arc0 a 0 1", "initial0 1", "1 2"} {
		if line == "initial 0 1 #" {
			checkLike(t, model(line), model("initial 0 1"))
			continue
		}
		checkError(t, model(line), 4, api.ErrSyntax)
		checkError(t, model("initial 1 1", "# one", line, "arc"), 6, api.ErrSyntax)
	}
}

func TestNumbersOfStates(t *testing.T) {
	for _, word := range noNumbers() {
		for _, line := range []string{"initial N 1", "final N 1", "arc N a 0 1", "arc 0 a N 1", "arc N a N 1"} {
			checkError(t, model(strings.ReplaceAll(line, "N", word)), 4, api.ErrSyntax)
		}
	}
	for _, states := range []int{0, 1, 2, 3, 10, api.MaxStates} {
		head := join("ring rational", "symbols a", "states "+strconv.Itoa(states))
		for _, state := range []int{0, 1, 2, 9, 10, 11, api.MaxStates - 1, api.MaxStates, api.MaxStates + 1, 100, 9999} {
			for _, line := range []string{"initial N 1", "final N 1", "arc N a N 1"} {
				text := head + strings.ReplaceAll(line, "N", strconv.Itoa(state))
				if state >= states {
					checkError(t, text, 4, api.ErrRange)
					continue
				}
				if a, _, _, e := Parse(text); e != api.OK || len(a.Arcs) > 0 && (a.Arcs[0].From != state || a.Arcs[0].To != state) {
					t.Errorf("%q: %v", text, e)
				}
			}
			if states > 0 && state >= states {
				checkError(t, head+"arc 0 a "+strconv.Itoa(state)+" 1", 4, api.ErrRange)
				checkError(t, head+"arc "+strconv.Itoa(state)+" a 0 1", 4, api.ErrRange)
			}
		}
	}
}

func TestSecondLines(t *testing.T) {
	for _, name := range []string{"initial", "final"} {
		for _, weight := range []string{"1", "0", "5"} {
			for _, second := range []string{"1", "0", "x", weight} {
				checkError(t, model(name+" 0 1", name+" 1 "+weight, "arc 0 a 0 1", name+" 1 "+second), 7, api.ErrRange)
			}
		}
		checkError(t, model(name+" 0 1", name+" 0"), 5, api.ErrSyntax)
		checkError(t, model(name+" 0 1", name+" 0 1 1"), 5, api.ErrSyntax)
	}
	text := model()
	for state := range 3 {
		text += join("initial "+strconv.Itoa(state)+" 1", "final "+strconv.Itoa(state)+" 1")
	}
	if _, _, line, e := Parse(text); e != api.OK {
		t.Errorf("an initial and a final line for each state: line %d: %v", line, e)
	}
}

func TestLabels(t *testing.T) {
	table := []string{"a", "b", "0a", "aa", "A", "arc", strings.Repeat("n", api.MaxName)}
	head := join("ring rational", "symbols "+strings.Join(table, " "), "states 1")
	for label, word := range append([]string{"-"}, table...) {
		want := blank(api.Ring{Kind: api.Rational}, len(table), 1)
		want.Arcs = []api.Arc{{Label: label, Weight: read(t, want.Ring, "1")}}
		checkParse(t, head+"arc 0 "+word+" 0 1", want, table)
	}
	for _, word := range []string{"c", "--", "0", "1", "2", "B", "a-", "-a", "aaa", "ar", "*", "(a)", "\u00e9", strings.Repeat("n", api.MaxName-1), strings.Repeat("n", api.MaxName+1)} {
		checkError(t, head+"arc 0 "+word+" 0 1", 4, api.ErrName)
	}
}

func TestErrorsOfOneLine(t *testing.T) {
	// Each part of an arc with the error that it has, if it is the first one.
	type part struct {
		text string
		form bool
		e    api.Errno
	}
	states := []part{{"0", true, api.OK}, {"3", true, api.ErrRange}, {"x", false, api.OK}}
	labels := []part{{"a", true, api.OK}, {"-", true, api.OK}, {"c", true, api.ErrName}}
	weights := []part{{"1", true, api.OK}, {"y", true, api.ErrForm}}
	check := func(name string, parts ...part) {
		want, text := api.OK, name
		for _, p := range parts {
			text += " " + p.text
			if want == api.OK {
				want = p.e
			}
		}
		for _, p := range parts {
			if !p.form {
				want = api.ErrSyntax
			}
		}
		checkError(t, model(text+" 0"), 4, api.ErrSyntax)
		if want != api.OK {
			checkError(t, model(text), 4, want)
			checkError(t, model(text, "x"), 4, want)
			checkError(t, model("initial 1 y", text), 4, api.ErrForm)
			return
		}
		checkLike(t, model(text), model(text))
	}
	for _, from := range states {
		for _, weight := range weights {
			check("initial", from, weight)
			check("final", from, weight)
			for _, label := range labels {
				for _, to := range states {
					check("arc", from, label, to, weight)
				}
			}
		}
	}
}

func TestFirstWrongLine(t *testing.T) {
	wrong := []struct {
		line string
		e    api.Errno
	}{{"x", api.ErrSyntax}, {"arc 0 c 0 1", api.ErrName}, {"final 3 1", api.ErrRange}, {"arc 0 a 0 x", api.ErrForm}, {"initial 0 x", api.ErrForm}, {"arc 0 a 3 1", api.ErrRange}, {"arc 0 a 0", api.ErrSyntax}}
	for _, first := range wrong {
		for _, second := range wrong {
			checkError(t, model("arc 0 a 0 1", "", first.line, "final 0 1", second.line), 6, first.e)
		}
	}
	checkError(t, join("ring x", "symbols", "states 99", "x"), 1, api.ErrSyntax)
	checkError(t, join("ring sets", "symbols", "states 99", "x"), 2, api.ErrName)
	checkError(t, join("ring sets", "symbols a", "states 99", "x"), 3, api.ErrRange)
	checkError(t, join("", "ring sets", "#", "symbols a", " ", "states 99"), 6, api.ErrRange)
}

func TestLongTexts(t *testing.T) {
	text := model("initial 0 1")
	room := api.MaxText - len(text)
	for _, rest := range []string{strings.Repeat("\n", room), strings.Repeat(" ", room), "#" + strings.Repeat("x", room-1), strings.Repeat("\t\n", room/2) + strings.Repeat("\n", room%2)} {
		if len(text+rest) != api.MaxText {
			t.Fatalf("%d bytes", len(text+rest))
		}
		checkLike(t, text+rest, text)
		checkError(t, text+rest+"\n", 0, api.ErrLimit)
		checkError(t, text+rest+"x", 0, api.ErrLimit)
		checkError(t, "x"+text+rest, 0, api.ErrLimit)
	}
	checkError(t, strings.Repeat("x", api.MaxText), 1, api.ErrSyntax)
	checkError(t, strings.Repeat("x", api.MaxText+1), 0, api.ErrLimit)
	checkError(t, strings.Repeat("x", 1<<20), 0, api.ErrLimit)
	checkError(t, strings.Repeat("x ", api.MaxText/2), 1, api.ErrSyntax)
	checkError(t, strings.Repeat("\n", api.MaxText+1), 0, api.ErrLimit)
}

func TestManyArcs(t *testing.T) {
	// No text of MaxText bytes has so many arcs.
	text := model() + strings.Repeat("arc 0 a 1 2\n", api.MaxArcs)
	r, line, e := readLines(text)
	if e != api.OK || line != 0 || len(r.automaton.Arcs) != api.MaxArcs {
		t.Errorf("%d arcs: line %d: %v", len(r.automaton.Arcs), line, e)
	}
	for last, want := range map[string]api.Errno{"arc 0 a 1 2": api.ErrLimit, "arc 0 a 1 x": api.ErrForm, "arc 0 a 3 2": api.ErrRange, "arc 0 c 1 2": api.ErrName, "arc 0 a 1": api.ErrSyntax, "final 0 1": api.OK, "# arc": api.OK} {
		if _, line, e := readLines(text + last + "\n\narc"); want != api.OK && (e != want || line != api.MaxArcs+4) || want == api.OK && line != api.MaxArcs+6 {
			t.Errorf("%s: line %d: %v", last, line, e)
		}
	}
	most := (api.MaxText - len(model())) / len("arc 0 a 1 2\n")
	a, _, _, e := Parse(model() + strings.Repeat("arc 0 a 1 2\n", most))
	if e != api.OK || len(a.Arcs) != most {
		t.Errorf("%d arcs: %v", most, e)
	}
}

func TestAnyBytes(t *testing.T) {
	source := rand.New(rand.NewSource(3))
	pieces := strings.Split("ring|symbols|states|initial|final|arc|rational|tropical|product|a|b|-|0|1|2|inf|1/2|\n|\n|\n| | | |\t|#|x|\r|\xff|\x00|01", "|")
	for range 20000 {
		var text strings.Builder
		if source.Intn(2) == 0 {
			text.WriteString(model("initial 0 1", "arc 0 a 1 2"))
		}
		for range source.Intn(30) {
			text.WriteString(pieces[source.Intn(len(pieces))])
			if source.Intn(3) > 0 {
				text.WriteString(" ")
			}
		}
		a, table, line, e := Parse(text.String())
		if e == api.OK {
			checkParse(t, text.String(), a, table)
			continue
		}
		if count := strings.Count(text.String(), "\n"); line < 1 || line > count+2 {
			t.Errorf("%q: line %d", text.String(), line)
		}
		checkNothing(t, a, table)
	}
}
