package words

import (
	"math"
	"math/rand"
	"slices"
	"strconv"
	"strings"
	"testing"

	"weighted/api"
)

// full returns a table of n names.
func full(letter string, n int) []string {
	var table []string
	for i := range n {
		table = append(table, letter+strconv.Itoa(i))
	}
	return table
}

// long returns a table of MaxSymbols names of MaxName bytes.
func long() []string {
	var table []string
	for i := range api.MaxSymbols {
		table = append(table, strings.Repeat("~", api.MaxName-2)+strconv.Itoa(10+i))
	}
	return table
}

// noTables are lists of names that are no tables.
func noTables() [][]string {
	return [][]string{nil, {}, full("a", api.MaxSymbols+1), full("a", 100), {"a", "a"}, {"a", "b", "a"}, {""}, {"a", ""}, {"0"}, {"1", "a"}, {"-"}, {"a", "b c"}, {"a", " "}, {"a*"}, {"a", "\t"}, {strings.Repeat("a", api.MaxName+1)}}
}

// checkFormat checks the text of a word.
func checkFormat(t *testing.T, table []string, word []int, want string) {
	t.Helper()
	if got, e := Format(table, word); e != api.OK || got != want {
		t.Errorf("%q: %v is %q, %v, not %q", table, word, got, e, want)
	}
}

// checkNoFormat checks that there is an error, and no text.
func checkNoFormat(t *testing.T, table []string, word []int, want api.Errno) {
	t.Helper()
	if got, e := Format(table, word); e != want || got != "" {
		t.Errorf("%q: %v is %q, %v, not %v", table, word, got, e, want)
	}
}

// checkParse checks the word of a text.
func checkParse(t *testing.T, table []string, text string, want []int) {
	t.Helper()
	if got, e := Parse(table, text); e != api.OK || !slices.Equal(got, want) {
		t.Errorf("%q: %.99q is %v, %v, not %v", table, text, got, e, want)
	}
}

// checkNoParse checks that there is an error, and no word.
func checkNoParse(t *testing.T, table []string, text string, want api.Errno) {
	t.Helper()
	if got, e := Parse(table, text); e != want || len(got) != 0 {
		t.Errorf("%q: %.99q is %v, %v, not %v", table, text, got, e, want)
	}
}

func TestFormat(t *testing.T) {
	table := []string{"x", "yy", "Z.", "10"}
	for _, x := range []struct {
		word []int
		want string
	}{
		{nil, ""}, {[]int{}, ""}, {[]int{1}, "x"}, {[]int{2}, "yy"}, {[]int{4}, "10"}, {[]int{1, 1}, "x x"}, {[]int{3, 1, 4, 2, 2}, "Z. x 10 yy yy"},
		{same(1, api.MaxWord), "x" + strings.Repeat(" x", api.MaxWord-1)}, {same(4, api.MaxWord), "10" + strings.Repeat(" 10", api.MaxWord-1)},
	} {
		checkFormat(t, table, x.word, x.want)
		checkParse(t, table, x.want, x.word)
	}
	name := long()[api.MaxSymbols-1]
	checkFormat(t, long(), same(api.MaxSymbols, api.MaxWord), name+strings.Repeat(" "+name, api.MaxWord-1))
}

func TestFormatWithoutTable(t *testing.T) {
	for _, table := range noTables() {
		for _, word := range [][]int{nil, {}, {1}, {1, 1}, {0}, {-1}, {len(table)}, {len(table) + 1}, same(1, api.MaxWord), same(1, api.MaxWord+1)} {
			checkNoFormat(t, table, word, api.ErrName)
		}
	}
}

func TestFormatWithoutWord(t *testing.T) {
	for n := 1; n <= api.MaxSymbols; n++ {
		for _, word := range noWords(n) {
			checkNoFormat(t, full("a", n), word, api.ErrLabels)
		}
	}
}

func TestParse(t *testing.T) {
	table := []string{"x", "yy", "Z.", "y", "10", "x/y", ",", "\""}
	for _, x := range []struct {
		text string
		want []int
	}{
		{"", nil}, {" ", nil}, {"     ", nil}, {"x", []int{1}}, {" x", []int{1}}, {"x ", []int{1}}, {"   x   ", []int{1}},
		{"yy y yy", []int{2, 4, 2}}, {"  y  yy   y ", []int{4, 2, 4}}, {"x    x", []int{1, 1}}, {"10 Z. x/y x y", []int{5, 3, 6, 1, 4}}, {", \" ,", []int{7, 8, 7}},
	} {
		checkParse(t, table, x.text, x.want)
	}
}

func TestParseOfNoNames(t *testing.T) {
	table := []string{"x", "yy", "y", "ab"}
	for _, part := range []string{"z", "X", "xx", "xy", "x,", "-", "0", "1", "2", "yyy", "a", "b", "abc", "aB", "[x]", "(x)", "x*", "x+y", "#", "\t", "\n", "\r", "\v", "\f", "\x00", "x\x00", "\u00a0", "\u2003", "\x85", "\xa0", "x\t", "\tx", "x\n", "\ny", "x\ty", "y\nx", "x\u00a0y", "x\u2003", "x\x85y", "\xff", "é", strings.Repeat("x", 10000), strings.Repeat("x", api.MaxText)} {
		for _, text := range []string{part, " " + part, part + " ", "x " + part, part + " x", "yy " + part + " x", strings.Repeat("x ", 300) + part, part + strings.Repeat(" x", 300)} {
			if len(text) > api.MaxText {
				checkNoParse(t, table, text, api.ErrLimit)
				continue
			}
			checkNoParse(t, table, text, api.ErrSyntax)
		}
	}
}

func TestParseUpToMaxWordNames(t *testing.T) {
	for _, table := range [][]string{{"x"}, {"y", "x"}, append(full("a", api.MaxSymbols-1), "x")} {
		symbol := len(table)
		for n := api.MaxWord - 2; n <= api.MaxWord; n++ {
			checkParse(t, table, strings.Repeat("x ", n), same(symbol, n))
			checkParse(t, table, strings.Repeat("  x ", n), same(symbol, n))
		}
		for _, n := range []int{api.MaxWord + 1, api.MaxWord + 2, 1000, api.MaxText / 2} {
			checkNoParse(t, table, strings.Repeat("x ", n), api.ErrLimit)
			checkNoParse(t, table, strings.Repeat("x ", n-1)+"x", api.ErrLimit)
			checkNoParse(t, table, strings.Repeat("x ", n-1)+"-", api.ErrSyntax)
			checkNoParse(t, table, "- "+strings.Repeat("x ", n-1), api.ErrSyntax)
			checkNoParse(t, table, strings.Repeat("x ", n-2)+"q x", api.ErrSyntax)
		}
	}
}

func TestParseUpToMaxTextBytes(t *testing.T) {
	table := []string{"x", "y"}
	for n := api.MaxText - 2; n <= api.MaxText; n++ {
		spaces := strings.Repeat(" ", n)
		checkParse(t, table, spaces, nil)
		checkParse(t, table, "x"+spaces[1:], []int{1})
		checkParse(t, table, "x"+spaces[2:]+"y", []int{1, 2})
		checkParse(t, table, spaces[:n/2]+"y"+spaces[n/2+1:], []int{2})
		checkNoParse(t, table, spaces[1:]+"-", api.ErrSyntax)
		checkNoParse(t, table, strings.Repeat("z", n), api.ErrSyntax)
	}
	for _, n := range []int{api.MaxText + 1, api.MaxText + 2, 2 * api.MaxText, 1 << 20} {
		spaces := strings.Repeat(" ", n)
		checkNoParse(t, table, spaces, api.ErrLimit)
		checkNoParse(t, table, "x"+spaces[1:], api.ErrLimit)
		checkNoParse(t, table, spaces[1:]+"y", api.ErrLimit)
		checkNoParse(t, table, "-"+spaces[1:], api.ErrLimit)
		checkNoParse(t, table, strings.Repeat("z", n), api.ErrLimit)
		checkNoParse(t, table, strings.Repeat("x ", n/2+1), api.ErrLimit)
	}
}

func TestParseWithoutTable(t *testing.T) {
	for _, table := range noTables() {
		for _, text := range []string{"", " ", "a", "a a", "b", "-", "0", "a0", "a0 a1", "b c", strings.Repeat(" ", api.MaxText+1), strings.Repeat("a ", api.MaxWord+1), strings.Repeat("z", api.MaxText+1)} {
			checkNoParse(t, table, text, api.ErrName)
		}
	}
}

func TestParseOfFormat(t *testing.T) {
	source := rand.New(rand.NewSource(8))
	for n := 1; n <= api.MaxSymbols; n++ {
		for _, table := range [][]string{full("a", n), long()[:n]} {
			for range 20 {
				word := random(source, n, source.Intn(api.MaxWord+1))
				text, e := Format(table, word)
				if e != api.OK {
					t.Errorf("%q: %v: %v", table, word, e)
				}
				checkParse(t, table, text, word)
				checkParse(t, table, spaced(source, text), word)
			}
		}
	}
}

// spaced returns a text with more spaces where there are some, and around it.
func spaced(source *rand.Rand, text string) string {
	var out strings.Builder
	for _, part := range strings.Split(text, " ") {
		out.WriteString(strings.Repeat(" ", 1+source.Intn(4)))
		out.WriteString(part)
	}
	return out.String() + strings.Repeat(" ", source.Intn(4))
}

func TestTablesAreLeftAlone(t *testing.T) {
	table := append([]string{"a", "b"}, "behind", "it")[:2]
	for _, word := range [][]int{nil, {1}, {2, 1}, {3}, {0}, {math.MaxInt}, same(1, api.MaxWord)} {
		_, _ = Format(table, word)
	}
	for _, text := range []string{"", "a", "b a", "behind", "it", "c"} {
		_, _ = Parse(table, text)
	}
	checkNoFormat(t, table, []int{3}, api.ErrLabels)
	checkNoParse(t, table, "behind", api.ErrSyntax)
	if !slices.Equal(table[:4], []string{"a", "b", "behind", "it"}) {
		t.Errorf("the table is %q", table[:4])
	}
}

func TestParsedWordsAreNewMemory(t *testing.T) {
	table := []string{"a", "b"}
	word, _ := Parse(table, "a b a")
	for i := range word[:cap(word)] {
		word[:cap(word)][i] = 99
	}
	checkParse(t, table, "a b a", []int{1, 2, 1})
}
