package symbols

import (
	"math"
	"slices"
	"strconv"
	"strings"
	"testing"

	"weighted/api"
)

// nameBytes are the bytes that names may have, written out.
const nameBytes = `!"$%&',./0123456789:;<=>?@ABCDEFGHIJKLMNOPQRSTUVWXYZ\^_` + "`abcdefghijklmnopqrstuvwxyz{}~"

// full returns a table of n names, which differ from those of other tables with another letter.
func full(letter string, n int) []string {
	var table []string
	for i := range n {
		table = append(table, letter+strconv.Itoa(i))
	}
	return table
}

// changed returns a copy of a table with another name at a place.
func changed(table []string, at int, name string) []string {
	out := slices.Clone(table)
	out[at] = name
	return out
}

// names are names for one reason or another.
func names() []string {
	return []string{"a", "A", "2", "9", "00", "01", "10", "11", "0a", "a0", "1a", "a1", "0.", "000", "ab", "aB", "!", "~", "!~", ".", "..", ",", "\"", "'", "\\", "^", "a^2", "<b>", "{x}", "eps", "inf", "ring", "1/2", strings.Repeat("0", api.MaxName), strings.Repeat("~", api.MaxName-1), strings.Repeat("~", api.MaxName)}
}

// noNames are strings that are no names, each for one reason.
func noNames() []string {
	return []string{"", "0", "1", "-", "#", "(", ")", "*", "+", "|", "[", "]", "a-b", "-1", "a#", "#a", "(a)", "a*", "+a", "a|b", "[1", "2]", " ", "a ", " a", "a b", "\t", "a\n", "\x00", "a\x00", "\x1f", "\x7f", "a\x7f", "\x80", "a\xff", "é", "aé", "\u212a", strings.Repeat("a", api.MaxName) + "-", strings.Repeat("a", api.MaxName-1) + "-", strings.Repeat("a", api.MaxName+1), strings.Repeat("a", api.MaxName+2), strings.Repeat("0", api.MaxName+1), strings.Repeat("é", api.MaxName/2), strings.Repeat("a", 1<<16)}
}

// tables are valid tables.
func tables() [][]string {
	out := [][]string{names()[:api.MaxSymbols], full("a", api.MaxSymbols), full("b", api.MaxSymbols-1), {"a", "aa", "aaa", "A", "aA"}, {"b", "a"}}
	for _, name := range names() {
		out = append(out, []string{name})
	}
	for i := range api.MaxSymbols {
		out = append(out, full("s", i+1))
	}
	return out
}

// noTables are lists of names that are no tables.
func noTables() [][]string {
	out := [][]string{nil, {}, full("a", api.MaxSymbols+1), full("a", api.MaxSymbols+2), full("a", 1000), {"a", "a"}, {"a", "b", "a"}, {"b", "a", "a"}, {"a", "a", "b"}, {"", ""}, slices.Repeat([]string{"a"}, api.MaxSymbols+1)}
	for _, s := range noNames() {
		out = append(out, []string{s}, []string{s, "a"}, []string{"a", s}, changed(full("a", api.MaxSymbols), 0, s), changed(full("a", api.MaxSymbols), 15, s), changed(full("a", api.MaxSymbols), api.MaxSymbols-1, s))
	}
	for i := range api.MaxSymbols - 1 {
		out = append(out, changed(full("a", api.MaxSymbols), i, "a31"), changed(full("a", api.MaxSymbols), i+1, "a0"))
	}
	return out
}

func TestLimits(t *testing.T) {
	if api.MaxName != 24 || api.MaxSymbols != 32 {
		t.Fatalf("names of %d bytes, tables of %d names", api.MaxName, api.MaxSymbols)
	}
}

func TestValid(t *testing.T) {
	for _, table := range tables() {
		if !Valid(table) {
			t.Errorf("%.99q is no table", table)
		}
	}
	for _, table := range noTables() {
		if Valid(table) {
			t.Errorf("%.99q is a table", table)
		}
	}
}

func TestValidOfEachByte(t *testing.T) {
	if len(nameBytes) != 126-33+1-9 {
		t.Fatalf("%d bytes", len(nameBytes))
	}
	longest := strings.Repeat("x", api.MaxName)
	for i := range 256 {
		s := string([]byte{byte(i)})
		may := strings.Contains(nameBytes, s)
		if got, want := Valid([]string{s}), may && s != "0" && s != "1"; got != want {
			t.Errorf("%q: %v", s, got)
		}
		for k := range api.MaxName {
			name := longest[:k] + s + longest[k+1:]
			if Valid([]string{name}) != may || Valid([]string{"a", name, "b"}) != may {
				t.Errorf("%q: not %v", name, may)
			}
		}
	}
}

func TestValidOfEachPairOfBytes(t *testing.T) {
	for i := range 1 << 16 {
		s := string([]byte{byte(i >> 8), byte(i)})
		want := strings.Contains(nameBytes, s[:1]) && strings.Contains(nameBytes, s[1:])
		if Valid([]string{s}) != want {
			t.Errorf("%q: not %v", s, want)
		}
	}
}

func TestValidOfEachLength(t *testing.T) {
	for n := range 100 {
		if got, want := Valid([]string{strings.Repeat("z", n)}), n >= 1 && n <= api.MaxName; got != want {
			t.Errorf("a name of %d bytes: %v", n, got)
		}
		if got, want := Valid(full("z", n)), n >= 1 && n <= api.MaxSymbols; got != want {
			t.Errorf("a table of %d names: %v", n, got)
		}
	}
}

func TestValidWithEqualNames(t *testing.T) {
	for n := 2; n <= api.MaxSymbols; n++ {
		for i := range n {
			for k := range n {
				if got := Valid(changed(full("a", n), i, "a"+strconv.Itoa(k))); got != (i == k) {
					t.Errorf("%d names, %d as %d: %v", n, i, k, got)
				}
			}
		}
	}
}

func TestFindAndName(t *testing.T) {
	for _, table := range tables() {
		for i, name := range table {
			if got := Find(table, name); got != i+1 {
				t.Errorf("%q: %q is %d, not %d", table, name, got, i+1)
			}
			if got := Name(table, i+1); got != name {
				t.Errorf("%q: %d is %q, not %q", table, i+1, got, name)
			}
		}
		if got := Name(table, 0); got != "-" {
			t.Errorf("%q: 0 is %q", table, got)
		}
		for _, symbol := range []int{-1, -2, -len(table), len(table) + 1, len(table) + 2, api.MaxSymbols + 1, 1 << 32, 1<<32 + 1, math.MinInt, math.MinInt + 1, math.MaxInt} {
			if got := Name(table, symbol); got != "" {
				t.Errorf("%q: %d is %q", table, symbol, got)
			}
		}
		for _, name := range append(noNames(), "missing", "s32", "a32", "B", "s", "b31") {
			if got := Find(table, name); got != 0 {
				t.Errorf("%q: %q is %d", table, name, got)
			}
		}
	}
}

func TestFindOfSimilarNames(t *testing.T) {
	table := []string{"ab", "Ab", "abc", "b", "a.b"}
	for name, want := range map[string]int{"ab": 1, "Ab": 2, "abc": 3, "b": 4, "a.b": 5, "a": 0, "aB": 0, "AB": 0, "ABC": 0, "B": 0, "bc": 0, "abcd": 0, "ab ": 0, " ab": 0, "a b": 0, "ab\x00": 0, "": 0, "-": 0, "0": 0, "1": 0, "2": 0} {
		if got := Find(table, name); got != want {
			t.Errorf("%q: %d", name, got)
		}
	}
}

func TestFindAndNameWithoutTable(t *testing.T) {
	for _, table := range noTables() {
		for _, name := range append(slices.Clone(table), "a", "a0", "-", "0", "") {
			if got := Find(table, name); got != 0 {
				t.Errorf("%.99q: %.30q is %d", table, name, got)
			}
		}
		for _, symbol := range []int{0, 1, 2, len(table), -1, len(table) + 1, math.MinInt, math.MaxInt} {
			if got := Name(table, symbol); got != "" {
				t.Errorf("%.99q: %d is %.30q", table, symbol, got)
			}
		}
	}
}

func TestWhatIsBehindALengthDoesNotCount(t *testing.T) {
	for _, behind := range []string{"a", "b", "c", "0", ""} {
		table := []string{"a", "b", behind, "d"}[:2]
		if !Valid(table) || Find(table, "c") != 0 || Find(table, "d") != 0 || Name(table, 3) != "" || Name(table, 2) != "b" {
			t.Errorf("with %q behind it", behind)
		}
	}
	long := full("a", api.MaxSymbols+1)
	if Valid(long) || !Valid(long[:api.MaxSymbols]) || Valid(long[:0]) {
		t.Error("parts of a long table")
	}
}
