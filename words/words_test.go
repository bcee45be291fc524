package words

import (
	"math"
	"slices"
	"testing"

	"weighted/api"
)

// alphabet returns the symbols of an alphabet.
func alphabet(symbols int) []int {
	var out []int
	for i := range symbols {
		out = append(out, i+1)
	}
	return out
}

// ordered returns all words of at most so many symbols: each length extends all the words of the length before, in their order, by each symbol.
func ordered(symbols, length int) [][]int {
	out := [][]int{nil}
	from := 0
	for range length {
		before := out[from:]
		from = len(out)
		for _, word := range before {
			for _, symbol := range alphabet(symbols) {
				out = append(out, append(slices.Clone(word), symbol))
			}
		}
	}
	return out
}

// small returns, for some alphabets, all words up to a length.
func small() map[int][][]int {
	return map[int][][]int{1: ordered(1, api.MaxWord), 2: ordered(2, 9), 3: ordered(3, 6), 4: ordered(4, 5), 5: ordered(5, 4), 10: ordered(10, 3), 31: ordered(31, 2), 32: ordered(32, 2)}
}

// same returns the word of n equal symbols.
func same(symbol, n int) []int {
	return slices.Repeat([]int{symbol}, n)
}

// changed returns a copy of a word with another number at a place.
func changed(word []int, at, symbol int) []int {
	out := slices.Clone(word)
	out[at] = symbol
	return out
}

// noAlphabets are numbers of symbols that no alphabet has.
func noAlphabets() []int {
	return []int{0, -1, -2, -api.MaxSymbols, api.MaxSymbols + 1, api.MaxSymbols + 2, 64, 1 << 32, 1<<32 + 1, 1<<32 + 2, math.MinInt, math.MinInt + 1, math.MaxInt}
}

// noWords are lists of numbers that are no words over an alphabet: with a number that is no symbol, too long, or both.
func noWords(symbols int) [][]int {
	var out [][]int
	for _, bad := range []int{0, -1, -2, -symbols, symbols + 1, symbols + 2, 100, 1 << 32, 1<<32 + 1, 1 << 63 >> 1, math.MinInt, math.MinInt + 1, math.MaxInt} {
		out = append(out, []int{bad}, []int{bad, 1}, []int{1, bad}, []int{1, bad, symbols}, []int{bad, bad})
		for _, at := range []int{0, 1, 100, api.MaxWord - 2, api.MaxWord - 1} {
			out = append(out, changed(same(1, api.MaxWord), at, bad), changed(same(symbols, api.MaxWord), at, bad))
		}
	}
	return append(out, same(1, api.MaxWord+1), same(symbols, api.MaxWord+1), same(symbols, api.MaxWord+2), same(1, 10000), same(0, api.MaxWord+1), same(symbols+1, api.MaxWord+1))
}

func TestLimits(t *testing.T) {
	if api.MaxSymbols != 32 || api.MaxWord != 256 || api.MaxText != 16384 {
		t.Fatalf("%d symbols, words of %d symbols, texts of %d bytes", api.MaxSymbols, api.MaxWord, api.MaxText)
	}
}

func TestValid(t *testing.T) {
	for symbols := 1; symbols <= api.MaxSymbols; symbols++ {
		if !Valid(nil, symbols) || !Valid([]int{}, symbols) {
			t.Errorf("%d symbols: the empty word", symbols)
		}
		for symbol := -40; symbol <= 40; symbol++ {
			want := symbol >= 1 && symbol <= symbols
			for _, word := range [][]int{{symbol}, {1, symbol}, {symbol, 1}, {symbols, symbol, 1}, changed(same(symbols, api.MaxWord), 0, symbol), changed(same(1, api.MaxWord), 99, symbol), changed(same(symbols, api.MaxWord), api.MaxWord-1, symbol)} {
				if Valid(word, symbols) != want {
					t.Errorf("%d symbols: %v is not %v", symbols, word, want)
				}
			}
		}
		for _, word := range noWords(symbols) {
			if Valid(word, symbols) {
				t.Errorf("%d symbols: %v is a word", symbols, word)
			}
		}
	}
}

func TestValidOfEachLength(t *testing.T) {
	for _, symbols := range []int{1, 2, 3, 31, 32} {
		for n := range 2*api.MaxWord + 2 {
			want := n <= api.MaxWord
			if Valid(same(1, n), symbols) != want || Valid(same(symbols, n), symbols) != want {
				t.Errorf("%d numbers of %d symbols: not %v", n, symbols, want)
			}
		}
	}
}

func TestValidWithoutAlphabet(t *testing.T) {
	for _, symbols := range noAlphabets() {
		for _, word := range [][]int{nil, {}, {1}, {0}, {-1}, {1, 1}, {2}, {symbols}, {symbols, 1}, {33}, same(1, api.MaxWord), same(1, api.MaxWord+1)} {
			if Valid(word, symbols) {
				t.Errorf("%d symbols: %v is a word", symbols, word)
			}
		}
	}
}

// checkCompare checks a comparison in both directions.
func checkCompare(t *testing.T, v, w []int, want int) {
	t.Helper()
	if got := Compare(v, w); got != want {
		t.Errorf("%v and %v: %d", v, w, got)
	}
	if got := Compare(w, v); got != -want {
		t.Errorf("%v and %v: %d", w, v, got)
	}
}

func TestCompareOfAllSmallWords(t *testing.T) {
	for _, all := range [][][]int{ordered(1, 40), ordered(2, 6), ordered(3, 4), ordered(6, 2)} {
		for i, v := range all {
			checkCompare(t, v, slices.Clone(v), 0)
			for _, w := range all[i+1:] {
				checkCompare(t, v, w, -1)
			}
		}
	}
}

func TestCompareOfAnyLists(t *testing.T) {
	const least, most = math.MinInt, math.MaxInt
	checkCompare(t, nil, nil, 0)
	checkCompare(t, nil, []int{}, 0)
	checkCompare(t, []int{}, []int{}, 0)
	for _, x := range [][2][]int{
		{nil, {0}}, {nil, {-5}}, {{}, {least}}, {{most}, {least, least}}, {{1}, {0, 0}}, {{5, 5}, {-1, -1, -1}},
		{{-1}, {0}}, {{0}, {1}}, {{-2}, {-1}}, {{least}, {most}}, {{least}, {least + 1}}, {{most - 1}, {most}}, {{least}, {0}}, {{-2}, {most}}, {{1 << 32}, {1<<32 + 1}}, {{2}, {1 << 32}},
		{{1, 2}, {2, 1}}, {{1, most}, {2, least}}, {{7, 7, -7}, {7, 7, 7}}, {{33}, {34}}, {{0, 100}, {1, -100}}, {{2, 2, 1}, {2, 2, 2}},
		{same(40, 300), same(-40, 301)}, {same(9, 256), same(1, 257)}, {changed(same(9, 1000), 999, 8), same(9, 1000)}, {changed(same(9, 1000), 0, -9), changed(same(9, 1000), 1, -9)},
	} {
		checkCompare(t, x[0], x[1], -1)
		checkCompare(t, x[0], slices.Clone(x[0]), 0)
		checkCompare(t, x[1], slices.Clone(x[1]), 0)
	}
}

// checkNext checks the word that follows another one.
func checkNext(t *testing.T, word []int, symbols int, want []int) {
	t.Helper()
	if got, e := Next(word, symbols); e != api.OK || !slices.Equal(got, want) {
		t.Errorf("%d symbols: behind %v comes %v, %v, not %v", symbols, word, got, e, want)
	}
}

// checkNoNext checks that there is an error, and no word.
func checkNoNext(t *testing.T, word []int, symbols int, want api.Errno) {
	t.Helper()
	if got, e := Next(word, symbols); e != want || len(got) != 0 {
		t.Errorf("%d symbols: behind %v comes %v, %v, not %v", symbols, word, got, e, want)
	}
}

func TestNextOfAllSmallWords(t *testing.T) {
	for symbols, all := range small() {
		for i, word := range all[1:] {
			checkNext(t, all[i], symbols, word)
		}
	}
}

func TestNextAtTheEndOfEachLength(t *testing.T) {
	for symbols := 1; symbols <= api.MaxSymbols; symbols++ {
		for n := range api.MaxWord {
			checkNext(t, same(symbols, n), symbols, same(1, n+1))
		}
		checkNoNext(t, same(symbols, api.MaxWord), symbols, api.ErrLimit)
		if symbols == 1 {
			continue
		}
		for at := range api.MaxWord {
			// What stands behind a symbol that is not the last one starts again.
			word := changed(same(symbols, api.MaxWord), at, symbols-1)
			want := slices.Concat(same(symbols, at+1), same(1, api.MaxWord-at-1))
			checkNext(t, word, symbols, want)
		}
		checkNext(t, same(1, api.MaxWord), symbols, changed(same(1, api.MaxWord), api.MaxWord-1, 2))
	}
}

func TestNextWithoutWord(t *testing.T) {
	for symbols := 1; symbols <= api.MaxSymbols; symbols++ {
		for _, word := range noWords(symbols) {
			checkNoNext(t, word, symbols, api.ErrLabels)
		}
	}
	for _, symbols := range noAlphabets() {
		for _, word := range [][]int{nil, {1}, {0}, {symbols}, same(1, api.MaxWord), same(symbols, api.MaxWord), same(symbols, api.MaxWord+1)} {
			checkNoNext(t, word, symbols, api.ErrLabels)
		}
	}
}

// roomy returns a list with numbers behind its length.
func roomy(word []int) []int {
	return append(slices.Clone(word), 7, 7, 7)[:len(word)]
}

func TestWordsAreLeftAlone(t *testing.T) {
	for _, word := range [][]int{nil, {1}, {2}, {2, 2}, {1, 2}, {2, 1, 2}, {3}, {0, 1}, same(2, api.MaxWord), same(1, api.MaxWord), same(2, api.MaxWord-1), same(2, api.MaxWord+1)} {
		v, w := roomy(word), roomy(word)
		before := slices.Clone(v[:cap(v)])
		_, _ = Valid(v, 2), Compare(v, w)
		_, _ = Rank(v, 2)
		_, _ = Format([]string{"a", "b"}, v)
		next, _ := Next(v, 2)
		for i := range next[:cap(next)] {
			next[:cap(next)][i] = 99
		}
		_ = append(next, 99, 99)
		if !slices.Equal(v[:cap(v)], before) || !slices.Equal(w[:cap(w)], before) {
			t.Errorf("%v has changed to %v and %v", before, v[:cap(v)], w[:cap(w)])
		}
	}
}

func TestWhatIsBehindALengthDoesNotCount(t *testing.T) {
	for _, behind := range []int{0, 1, 2, 3, -1} {
		word := []int{2, 1, behind, behind}[:2]
		if !Valid(word, 2) || Compare(word, []int{2, 1}) != 0 || Compare(word[:0], nil) != 0 {
			t.Errorf("with %d behind it", behind)
		}
		checkNext(t, word, 2, []int{2, 2})
		checkNext(t, word[:0], 2, []int{1})
		checkRank(t, word, 2, "5")
		checkFormat(t, []string{"a", "b"}, word, "b a")
	}
}
