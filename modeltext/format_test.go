package modeltext

import (
	"math/rand"
	"slices"
	"strconv"
	"strings"
	"testing"
	"time"

	"weighted/api"
)

// checkFormat checks the text of an automaton, and that Parse reads the automaton and the table in it.
func checkFormat(t *testing.T, a api.Auto, table []string, want string) {
	t.Helper()
	got, e := Format(a, table)
	if e != api.OK || got != want {
		t.Errorf("%v: %v, %q, not %q", a, e, got, want)
	}
	checkParse(t, want, a, table)
}

// checkNoFormat checks that there is an error, and no text.
func checkNoFormat(t *testing.T, a api.Auto, table []string, want api.Errno) {
	t.Helper()
	if got, e := Format(a, table); e != want || got != "" {
		t.Errorf("%.200v, %q: %v, %.200q, not %v", a, table, e, got, want)
	}
}

func TestFormat(t *testing.T) {
	for _, s := range ringCases() {
		head := join("ring "+s.words, "symbols b a", "states 3")
		a := blank(s.ring, 2, 3)
		checkFormat(t, a, []string{"b", "a"}, head)
		for _, text := range s.texts[1:] {
			w := read(t, s.ring, text)
			b := a
			b.Initial, b.Final = slices.Clone(a.Initial), slices.Clone(a.Final)
			b.Initial[2], b.Initial[0], b.Final[1], b.Final[2] = w, w, w, w
			b.Arcs = []api.Arc{{From: 2, Label: 2, To: 0, Weight: w}, {From: 0, Label: 0, To: 1, Weight: w}, {From: 0, Label: 1, To: 1, Weight: a.Initial[0]}, {From: 2, Label: 2, To: 0, Weight: w}}
			lines := join("initial 0 W", "initial 2 W", "final 1 W", "final 2 W", "arc 2 a 0 W", "arc 0 - 1 W", "arc 0 b 1 "+s.texts[0], "arc 2 a 0 W")
			checkFormat(t, b, []string{"b", "a"}, head+strings.ReplaceAll(lines, "W", text))
		}
	}
}

func TestFormatOfSizes(t *testing.T) {
	r := api.Ring{Kind: api.Viterbi}
	for _, states := range []int{0, 1, 2, 9, 10, 11, api.MaxStates} {
		for _, symbols := range []int{1, 2, api.MaxSymbols} {
			a, table := blank(r, symbols, states), names(symbols)
			want := join("ring viterbi", "symbols "+strings.Join(table, " "), "states "+strconv.Itoa(states))
			if states > 0 {
				a.Final[states-1] = read(t, r, "1/2")
				a.Arcs = []api.Arc{{From: states - 1, Label: symbols, To: states - 1, Weight: read(t, r, "1")}}
				last := strconv.Itoa(states - 1)
				want += join("final "+last+" 1/2", "arc "+last+" "+table[symbols-1]+" "+last+" 1")
			}
			checkFormat(t, a, table, want)
		}
	}
}

func TestFormatAndParse(t *testing.T) {
	source := rand.New(rand.NewSource(2))
	for _, s := range ringCases() {
		for range 100 {
			symbols := 1 + source.Intn(5)
			a, table := random(t, source, s, symbols, source.Intn(6), source.Intn(12)), names(symbols)
			text, e := Format(a, table)
			if e != api.OK || strings.Contains(text, "  ") || strings.Contains(text, " \n") || strings.Contains(text, "\n\n") || !strings.HasSuffix(text, "\n") {
				t.Errorf("%v: %v, %q", a, e, text)
			}
			checkParse(t, text, a, table)
		}
	}
}

func TestFormatErrors(t *testing.T) {
	r := api.Ring{Kind: api.Rational}
	good := func() api.Auto {
		a := blank(r, 2, 2)
		a.Arcs = []api.Arc{{From: 0, Label: 1, To: 1, Weight: read(t, r, "2")}}
		return a
	}
	table := []string{"a", "b"}
	checkFormat(t, good(), table, join("ring rational", "symbols a b", "states 2", "arc 0 a 1 2"))
	noTables := [][]string{nil, {}, {"a"}, {"a", "b", "c"}, {"a", "a"}, {"a", "*"}, {"a", ""}, {"a", "0"}, {"a", "b c"}, {"a", "#"}, {"a", "-"}, {"a", strings.Repeat("n", api.MaxName+1)}, names(api.MaxSymbols + 1)}
	for _, list := range noTables {
		checkNoFormat(t, good(), list, api.ErrName)
	}
	for name, change := range map[string]func(*api.Auto){
		"ring":     func(a *api.Auto) { a.Ring.Kind = 0 },
		"kind":     func(a *api.Auto) { a.Ring.Kind = 7 },
		"negative": func(a *api.Auto) { a.Ring.Kind = -1 },
		"parts":    func(a *api.Auto) { a.Ring.Parts = []int{1} },
		"other":    func(a *api.Auto) { a.Ring.Kind = api.Tropical },
		"symbols":  func(a *api.Auto) { a.Symbols = 0 },
		"many":     func(a *api.Auto) { a.Symbols = api.MaxSymbols + 1 },
		"states":   func(a *api.Auto) { a.States = 3 },
		"initial":  func(a *api.Auto) { a.Initial = nil },
		"final":    func(a *api.Auto) { a.Final[1].Cost = 1 },
		"from":     func(a *api.Auto) { a.Arcs[0].From = -1 },
		"label":    func(a *api.Auto) { a.Arcs[0].Label = 3 },
		"to":       func(a *api.Auto) { a.Arcs[0].To = 2 },
		"weight":   func(a *api.Auto) { a.Arcs[0].Weight.Q.Den = []uint32{2} },
		"arcs":     func(a *api.Auto) { a.Arcs = slices.Repeat(a.Arcs, api.MaxArcs+1) },
		"none":     func(a *api.Auto) { *a = api.Auto{} },
	} {
		a := good()
		change(&a)
		for _, list := range append(noTables, table) {
			if got, e := Format(a, list); e != api.ErrForm || got != "" {
				t.Errorf("%s, %q: %v, %q", name, list, e, got)
			}
		}
	}
}

func TestFormatOfLongTexts(t *testing.T) {
	r := api.Ring{Kind: api.Rational}
	table := []string{"a"}
	a := blank(r, 1, 1)
	text := join("ring rational", "symbols a", "states 1")
	for len(text)+24 < api.MaxText {
		a.Arcs = append(a.Arcs, api.Arc{Label: 1, Weight: read(t, r, "1")})
		text += "arc 0 a 0 1\n"
	}
	// The last arc fills the text.
	last := strings.Repeat("3", api.MaxText-len(text)-len("arc 0 a 0 \n"))
	a.Arcs = append(a.Arcs, api.Arc{Label: 1, Weight: read(t, r, last)})
	checkFormat(t, a, table, text+"arc 0 a 0 "+last+"\n")
	longer := slices.Clone(a.Arcs)
	longer[len(longer)-1].Weight = read(t, r, last+"3")
	a.Arcs = longer
	checkNoFormat(t, a, table, api.ErrLimit)
	checkNoFormat(t, a, []string{"b", "a"}, api.ErrName)
	a.Arcs = slices.Repeat(a.Arcs[:1], api.MaxArcs)
	checkNoFormat(t, a, table, api.ErrLimit)
	a.Arcs = nil
	a.Initial[0] = api.Weight{Q: api.Rat{Num: slices.Repeat([]uint32{7}, 2000)}}
	checkNoFormat(t, a, table, api.ErrLimit)
	a.Initial[0], a.Final[0] = a.Final[0], a.Initial[0]
	checkNoFormat(t, a, table, api.ErrLimit)
	// Lines that would follow the one that is too long.
	a.Arcs = longer[:1]
	checkNoFormat(t, a, table, api.ErrLimit)
	a.Initial[0] = a.Final[0]
	checkNoFormat(t, a, table, api.ErrLimit)
}

func TestFormatEndsEarly(t *testing.T) {
	a := blank(api.Ring{Kind: api.Rational}, 1, 1)
	long := api.Weight{Q: api.Rat{Num: slices.Repeat([]uint32{7}, 4000)}}
	a.Arcs = slices.Repeat([]api.Arc{{Label: 1, Weight: long}}, api.MaxArcs)
	start := time.Now()
	checkNoFormat(t, a, []string{"a"}, api.ErrLimit)
	if used := time.Since(start); used > 2*time.Second {
		t.Errorf("a text that is too long takes %v", used)
	}
}

func TestFormatOfLongNumbers(t *testing.T) {
	// Format writes what Parse does not read: a number of more than MaxDigits digits.
	a := blank(api.Ring{Kind: api.Rational}, 1, 1)
	a.Final[0] = api.Weight{Q: api.Rat{Num: slices.Repeat([]uint32{1}, 300)}}
	text, e := Format(a, []string{"a"})
	if e != api.OK || len(text) < api.MaxDigits {
		t.Errorf("%v, %d bytes", e, len(text))
	}
	checkError(t, text, 4, api.ErrForm)
}
