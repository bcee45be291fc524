package modeltext

import (
	"strconv"
	"strings"
	"testing"

	"weighted/api"
	"weighted/symbols"
)

func TestRings(t *testing.T) {
	for _, s := range ringCases() {
		checkParse(t, join("ring "+s.words, "symbols a b", "states 2"), blank(s.ring, 2, 2), []string{"a", "b"})
	}
}

func TestAllProducts(t *testing.T) {
	known := []string{"rational", "tropical", "viterbi", "sets", "polynomial"}
	for i, first := range known {
		checkError(t, join("ring product "+first, "symbols a", "states 0"), 1, api.ErrSyntax)
		for j, second := range known {
			pair := api.Ring{Kind: api.Product, Parts: []int{i + 1, j + 1}}
			checkParse(t, join("ring product "+first+" "+second, "symbols a", "states 1"), blank(pair, 1, 1), []string{"a"})
			checkError(t, join("ring "+first+" "+second, "symbols a", "states 0"), 1, api.ErrSyntax)
			for k, third := range known {
				triple := api.Ring{Kind: api.Product, Parts: []int{i + 1, j + 1, k + 1}}
				line := strings.Join([]string{"ring product", first, second, third}, " ")
				checkParse(t, join(line, "symbols a", "states 1"), blank(triple, 1, 1), []string{"a"})
				checkError(t, join(line+" "+first, "symbols a", "states 0"), 1, api.ErrSyntax)
			}
		}
	}
}

func TestWrongRings(t *testing.T) {
	for _, line := range []string{"ring", "ring product", "ring Rational", "ring rationals", "ring ration", "ring 1", "ring 0", "ring -", "ring product product", "ring product rational product", "ring product product rational", "ring product rational tropical product", "ring product rational x", "ring product x rational", "ring product rational|tropical", "ring rational rational", "ring tropical 2", "Ring rational", "rings rational", "rational", "product rational tropical", "ring\rrational", "ring rational\r", "ring rational\v", "ring\frational", "ring rational\x00", "ring\u00a0rational", "\ufeffring rational", "ring: rational", "ring rational, tropical", "ring product rational, tropical"} {
		checkError(t, join(line, "symbols a", "states 1"), 1, api.ErrSyntax)
		checkError(t, line, 1, api.ErrSyntax)
	}
}

func TestTables(t *testing.T) {
	full := names(api.MaxSymbols)
	for _, table := range [][]string{{"a"}, {"b", "a"}, {"ring", "symbols", "states", "initial", "final", "arc"}, {"00", "01", "10", "2"}, {"!", "~", "\"", "'", "%", "&", ",", ".", "/", ":", ";", "<", "=", ">", "?", "@", "\\", "^", "_", "`", "{", "}"}, {strings.Repeat("n", api.MaxName), strings.Repeat("n", api.MaxName-1)}, full, full[:api.MaxSymbols-1], {"A", "a"}} {
		if !symbols.Valid(table) {
			t.Fatalf("no table: %q", table)
		}
		checkParse(t, join("ring sets", "symbols "+strings.Join(table, " "), "states 1"), blank(api.Ring{Kind: api.Sets}, len(table), 1), table)
	}
}

func TestWrongTables(t *testing.T) {
	for _, list := range []string{"", " a a", " a b a", " a A a b", " 0", " 1", " a 0", " 1 a", " -", " a -", " a*", " (a", " a)", " a+b", " a|b", " [", " ]", " a b a b c", " \x01", " a\r", " a \u00e9", " a\x7f", " a \xff", " " + strings.Repeat("n", api.MaxName+1), " " + strings.Join(names(api.MaxSymbols+1), " "), " " + strings.Repeat("a ", 100)} {
		checkError(t, join("ring rational", "symbols"+list, "states 1"), 2, api.ErrName)
		checkError(t, "ring rational\nsymbols"+list, 2, api.ErrName)
		checkError(t, join("ring rational", "symbols"+list, "x", "states 99"), 2, api.ErrName)
	}
	// Behind # there is no name.
	checkError(t, join("ring rational", "symbols #a", "states 1"), 2, api.ErrName)
	checkLike(t, join("ring rational", "symbols a#*", "states 1"), join("ring rational", "symbols a", "states 1"))
	for _, line := range []string{"symbol a", "Symbols a", "symbols: a", "a", "symbolsa", "table a"} {
		checkError(t, join("ring rational", line, "states 1"), 2, api.ErrSyntax)
	}
}

func TestStates(t *testing.T) {
	r := api.Ring{Kind: api.Tropical}
	for states := range api.MaxStates + 1 {
		checkParse(t, join("ring tropical", "symbols a", "states "+strconv.Itoa(states)), blank(r, 1, states), []string{"a"})
	}
	for _, states := range []int{api.MaxStates + 1, api.MaxStates + 2, 99, 100, 128, 999, 1000, 9998, 9999} {
		checkError(t, join("ring tropical", "symbols a", "states "+strconv.Itoa(states)), 3, api.ErrRange)
	}
}

// noNumbers are words that are not of the form of a number.
func noNumbers() []string {
	return []string{"00", "01", "001", "0000", "0001", "00000", "10000", "12345", "99999", "100000", "18446744073709551616", "18446744073709551617", "4294967296", "+0", "-0", "+1", "-1", "1.", "1.0", "1e1", "0x1", "0b1", "0o1", "1_0", "x", "1x", "x1", "1,", "\u0661", "\u00b9", "1\r", "\r1", "\v1", "1\x00", "inf", "1/1", "a", "-", "--", "1-", strings.Repeat("0", 1000), strings.Repeat("9", 1000)}
}

func TestWrongStates(t *testing.T) {
	for _, word := range noNumbers() {
		checkError(t, join("ring rational", "symbols a", "states "+word), 3, api.ErrSyntax)
	}
	for _, line := range []string{"states", "states 1 2", "states 1 1", "states 1 x", "states 99 1", "States 1", "state 1", "1", "states1", "states #1", "states: 1", "states 1 -"} {
		checkError(t, join("ring rational", "symbols a", line), 3, api.ErrSyntax)
		checkError(t, join("ring rational", "symbols a", line, "arc"), 3, api.ErrSyntax)
	}
}

func TestMissingHeads(t *testing.T) {
	whole := []string{"ring rational", "symbols a", "states 1"}
	for n := range 3 {
		text := join(whole[:n]...)
		checkError(t, text, n+1, api.ErrSyntax)
		checkError(t, strings.TrimSuffix(text, "\n"), n+1, api.ErrSyntax)
		// Lines without words count as well.
		checkError(t, text+"\n", n+2, api.ErrSyntax)
		checkError(t, "\n"+text, n+2, api.ErrSyntax)
		checkError(t, text+"# states 1", n+2, api.ErrSyntax)
		checkError(t, text+" ", n+2, api.ErrSyntax)
		checkError(t, text+"\t\n\n #\n", n+4, api.ErrSyntax)
		checkError(t, text+strings.Repeat("\n", 1000), n+1001, api.ErrSyntax)
	}
	checkError(t, "", 1, api.ErrSyntax)
	checkError(t, strings.Repeat("\n", api.MaxText), api.MaxText+1, api.ErrSyntax)
	checkError(t, strings.Repeat(" ", api.MaxText), 2, api.ErrSyntax)
}

func TestHeadsInOtherPlaces(t *testing.T) {
	lines := []string{"ring rational", "symbols a", "states 1", "initial 0 1", "final 0 1", "arc 0 a 0 1"}
	for n := range 3 {
		for i, line := range lines {
			if i == n {
				continue
			}
			text := append(append([]string{}, lines[:n]...), line)
			checkError(t, join(append(text, lines[n:]...)...), n+1, api.ErrSyntax)
		}
	}
	for i := range 3 {
		for n := 3; n <= len(lines); n++ {
			text := append(append([]string{}, lines[:n]...), lines[i])
			checkError(t, join(append(text, lines[n:]...)...), n+1, api.ErrSyntax)
		}
	}
}
