package words

import (
	"fmt"
	"math/big"
	"math/rand"
	"slices"
	"strings"
	"testing"

	"weighted/api"
	"weighted/rational"
)

// checkRank checks the rank of a word.
func checkRank(t *testing.T, word []int, symbols int, want string) {
	t.Helper()
	if got, e := Rank(word, symbols); e != api.OK || !rational.Valid(got) || rational.Format(got) != want {
		t.Errorf("%d symbols: %v has the rank %v, %v, not %s", symbols, word, got, e, want)
	}
}

// checkNoRank checks that there is an error, and no rank.
func checkNoRank(t *testing.T, word []int, symbols int) {
	t.Helper()
	if got, e := Rank(word, symbols); e != api.ErrLabels || got.Neg || len(got.Num) != 0 || len(got.Den) != 0 {
		t.Errorf("%d symbols: %v has the rank %v, %v", symbols, word, got, e)
	}
}

// checkUnrank checks the word with a rank.
func checkUnrank(t *testing.T, rank api.Rat, symbols int, want []int) {
	t.Helper()
	if got, e := Unrank(rank, symbols); e != api.OK || !slices.Equal(got, want) {
		t.Errorf("%d symbols: %v is the rank of %v, %v, not %v", symbols, rank, got, e, want)
	}
}

// checkNoUnrank checks that there is an error, and no word.
func checkNoUnrank(t *testing.T, rank api.Rat, symbols int, want api.Errno) {
	t.Helper()
	if got, e := Unrank(rank, symbols); e != want || len(got) != 0 {
		t.Errorf("%d symbols: %.99s is the rank of %v, %v, not %v", symbols, fmt.Sprint(rank), got, e, want)
	}
}

// parsed returns the number that a text writes.
func parsed(t *testing.T, text string) api.Rat {
	t.Helper()
	x, ok := rational.Parse(text)
	if !ok {
		t.Fatalf("%q is no number", text)
	}
	return x
}

// counted returns the number of words before a word: for each place, the words that end before it or have a smaller symbol there.
func counted(word []int, symbols int) *big.Int {
	total := new(big.Int)
	for i, symbol := range word {
		power := new(big.Int).Exp(big.NewInt(int64(symbols)), big.NewInt(int64(i)), nil)
		total.Add(total, power)
		rest := new(big.Int).Exp(big.NewInt(int64(symbols)), big.NewInt(int64(len(word)-1-i)), nil)
		total.Add(total, rest.Mul(rest, big.NewInt(int64(symbol-1))))
	}
	return total
}

func TestRankAndUnrankOfAllSmallWords(t *testing.T) {
	for symbols, all := range small() {
		for i, word := range all {
			rank, _ := rational.Make(i, 1)
			checkRank(t, word, symbols, rational.Format(rank))
			checkUnrank(t, rank, symbols, word)
		}
	}
}

func TestRankOfExamples(t *testing.T) {
	checkRank(t, []int{2, 1}, 2, "5")
	for i, word := range [][]int{nil, {1}, {2}, {1, 1}, {1, 2}, {2, 1}, {2, 2}, {1, 1, 1}} {
		rank, _ := rational.Make(i, 1)
		checkRank(t, word, 2, rational.Format(rank))
		checkUnrank(t, rank, 2, word)
	}
}

// random returns a word of n symbols, with many symbols at the ends of the alphabet.
func random(source *rand.Rand, symbols, n int) []int {
	var word []int
	for range n {
		switch source.Intn(3) {
		case 0:
			word = append(word, 1)
		case 1:
			word = append(word, symbols)
		default:
			word = append(word, 1+source.Intn(symbols))
		}
	}
	return word
}

func TestRankAndUnrankOfLongWords(t *testing.T) {
	source := rand.New(rand.NewSource(5))
	for symbols := 1; symbols <= api.MaxSymbols; symbols++ {
		list := [][]int{same(1, api.MaxWord), same(symbols, api.MaxWord), same(1, api.MaxWord-1), same(symbols, api.MaxWord-1), random(source, symbols, api.MaxWord)}
		for range 12 {
			list = append(list, random(source, symbols, source.Intn(api.MaxWord+1)))
		}
		for _, word := range list {
			want := counted(word, symbols).String()
			checkRank(t, word, symbols, want)
			checkUnrank(t, parsed(t, want), symbols, word)
		}
	}
}

func TestRankOfNext(t *testing.T) {
	source := rand.New(rand.NewSource(6))
	for symbols := 1; symbols <= api.MaxSymbols; symbols++ {
		for range 12 {
			word := random(source, symbols, source.Intn(api.MaxWord))
			word = append(word, same(symbols, source.Intn(api.MaxWord-len(word)))...)
			next, _ := Next(word, symbols)
			if !Valid(next, symbols) || Compare(word, next) != -1 {
				t.Errorf("%d symbols: %v stands behind %v", symbols, next, word)
			}
			rank, _ := Rank(word, symbols)
			one, _ := rational.Make(1, 1)
			checkRank(t, next, symbols, rational.Format(rational.Add(rank, one)))
		}
	}
}

func TestRanksAreInOrder(t *testing.T) {
	source := rand.New(rand.NewSource(7))
	for range 2000 {
		symbols := 1 + source.Intn(api.MaxSymbols)
		v, w := random(source, symbols, source.Intn(9)), random(source, symbols, source.Intn(9))
		x, _ := Rank(v, symbols)
		y, _ := Rank(w, symbols)
		if rational.Compare(x, y) != Compare(v, w) {
			t.Errorf("%d symbols: %v and %v", symbols, v, w)
		}
	}
}

func TestRankWithoutWord(t *testing.T) {
	for symbols := 1; symbols <= api.MaxSymbols; symbols++ {
		for _, word := range noWords(symbols) {
			checkNoRank(t, word, symbols)
		}
	}
	for _, symbols := range noAlphabets() {
		for _, word := range [][]int{nil, {1}, {0}, {symbols}, {1, 2}, same(1, api.MaxWord), same(1, api.MaxWord+1)} {
			checkNoRank(t, word, symbols)
		}
	}
}

func TestUnrankAtTheEnd(t *testing.T) {
	one, _ := rational.Make(1, 1)
	for symbols := 1; symbols <= api.MaxSymbols; symbols++ {
		last := parsed(t, counted(same(symbols, api.MaxWord), symbols).String())
		checkUnrank(t, last, symbols, same(symbols, api.MaxWord))
		checkUnrank(t, rational.Sub(last, one), symbols, beforeLast(symbols))
		for x, k := rational.Add(last, one), 0; k < 300; k++ {
			checkNoUnrank(t, x, symbols, api.ErrRange)
			x = rational.Add(rational.Add(x, x), x)
		}
		checkNoUnrank(t, rational.Neg(last), symbols, api.ErrRange)
		half, _ := rational.Div(last, rational.Add(last, one))
		checkNoUnrank(t, half, symbols, api.ErrRange)
	}
}

// beforeLast returns the word before the last one of MaxWord symbols.
func beforeLast(symbols int) []int {
	if symbols == 1 {
		return same(1, api.MaxWord-1)
	}
	return changed(same(symbols, api.MaxWord), api.MaxWord-1, symbols-1)
}

// noRanks are numbers that are no ranks of words.
func noRanks(t *testing.T) []api.Rat {
	var out []api.Rat
	for _, text := range []string{"-1", "-2", "-1000000000000000000000000", "1/2", "-1/2", "3/2", "-3/2", "1/3", "4/3", "5/32", "1000000000000000000000000/7", "1/1000000000000000000000000", "1" + strings.Repeat("0", 400), "-1" + strings.Repeat("0", 400), strings.Repeat("3", 400) + "/2"} {
		out = append(out, parsed(t, text))
	}
	huge := append(make([]uint32, 1<<16), 1)
	return append(out, api.Rat{Num: huge}, api.Rat{Neg: true, Num: huge}, api.Rat{Num: huge, Den: []uint32{3}})
}

// noNumbers are representations that are not valid, which count as 0.
func noNumbers() []api.Rat {
	var out []api.Rat
	for _, neg := range []bool{false, true} {
		out = append(out, api.Rat{Neg: neg, Num: []uint32{0}}, api.Rat{Neg: neg, Num: []uint32{3, 0}}, api.Rat{Neg: neg, Num: []uint32{3}, Den: []uint32{1}}, api.Rat{Neg: neg, Num: []uint32{2}, Den: []uint32{2}}, api.Rat{Neg: neg, Num: []uint32{6}, Den: []uint32{4}}, api.Rat{Neg: neg, Num: []uint32{3}, Den: []uint32{2, 0}}, api.Rat{Neg: neg, Den: []uint32{5}}, api.Rat{Neg: neg, Num: []uint32{3}, Den: []uint32{0}}, api.Rat{Neg: neg, Num: make([]uint32, 1000)})
	}
	return append(out, api.Rat{Neg: true})
}

func TestUnrankWithoutRank(t *testing.T) {
	for symbols := 1; symbols <= api.MaxSymbols; symbols++ {
		for _, rank := range noRanks(t) {
			checkNoUnrank(t, rank, symbols, api.ErrRange)
		}
		for _, rank := range append(noNumbers(), api.Rat{}, api.Rat{Num: []uint32{}, Den: []uint32{}}) {
			checkUnrank(t, rank, symbols, nil)
		}
		checkUnrank(t, api.Rat{Num: []uint32{1}, Den: []uint32{}}, symbols, []int{1})
	}
}

func TestUnrankWithoutAlphabet(t *testing.T) {
	some := []api.Rat{{}, parsed(t, "1"), parsed(t, "5"), parsed(t, "257")}
	for _, symbols := range noAlphabets() {
		for _, rank := range slices.Concat(some, noRanks(t), noNumbers()) {
			checkNoUnrank(t, rank, symbols, api.ErrLabels)
		}
	}
}

func TestRanksAreLeftAlone(t *testing.T) {
	for _, text := range []string{"0", "1", "2", "6", "77777777777777777777777777", "-3", "7/3"} {
		rank := parsed(t, text)
		rank.Num = append(slices.Clone(rank.Num), 8, 9)[:len(rank.Num)]
		rank.Den = append(slices.Clone(rank.Den), 8, 9)[:len(rank.Den)]
		num, den := slices.Clone(rank.Num[:cap(rank.Num)]), slices.Clone(rank.Den[:cap(rank.Den)])
		word, _ := Unrank(rank, 2)
		again, _ := Unrank(rank, 2)
		for i := range word[:cap(word)] {
			word[:cap(word)][i] = 99
		}
		later, _ := Unrank(rank, 2)
		if !slices.Equal(again, later) {
			t.Errorf("%s: %v and %v", text, again, later)
		}
		if rational.Format(rank) != text || !slices.Equal(rank.Num[:cap(rank.Num)], num) || !slices.Equal(rank.Den[:cap(rank.Den)], den) {
			t.Errorf("%s has changed", text)
		}
	}
}

func TestRanksAreNewMemory(t *testing.T) {
	for _, word := range [][]int{{1}, {2, 2}, same(2, 100)} {
		rank, _ := Rank(word, 2)
		want := rational.Format(rank)
		for i := range rank.Num[:cap(rank.Num)] {
			rank.Num[:cap(rank.Num)][i] = 99
		}
		checkRank(t, word, 2, want)
	}
}
