package regex_test

import (
	"math"
	"slices"
	"strconv"
	"testing"

	"weighted/api"
	"weighted/regex"
	"weighted/semiring"
)

// checkValid checks whether a list is an expression over so many symbols. If it is none, the functions that need one say so.
func checkValid(t *testing.T, what string, r api.Ring, symbols int, e []api.ENode, want bool) {
	t.Helper()
	if regex.Valid(r, symbols, e) != want {
		t.Errorf("%s: Valid is not %v", what, want)
	}
	if want {
		return
	}
	if w, err := regex.Constant(r, symbols, e); err != api.ErrForm || !semiring.Equal(w, api.Weight{}) {
		t.Errorf("%s: Constant is %v, %v", what, w, err)
	}
	for _, word := range [][]int{nil, {1}, {0}, make([]int, api.MaxWord+1)} {
		if w, err := regex.Weight(r, symbols, e, word); err != api.ErrForm || !semiring.Equal(w, api.Weight{}) {
			t.Errorf("%s: Weight is %v, %v", what, w, err)
		}
	}
}

// counted reports whether a list of operations with these numbers is exactly one expression, by the number of expressions that are still to come.
func counted(ops []int) bool {
	missing := 1
	for _, op := range ops {
		if missing == 0 {
			return false
		}
		switch op {
		case api.ESum, api.EProduct:
			missing++
		case api.EZero, api.EOne, api.ESymbol:
			missing--
		}
	}
	return missing == 0
}

func TestAllSmallLists(t *testing.T) {
	r := rational()
	var lists func(ops []int)
	lists = func(ops []int) {
		var e []api.ENode
		for _, op := range ops {
			x := api.ENode{Op: op}
			if op == api.ESymbol {
				x.Num = 2
			}
			e = append(e, x)
		}
		if got := regex.Valid(r, 2, e); got != counted(ops) {
			t.Errorf("%v: %v", ops, got)
		}
		for op := api.EZero; op <= api.EStar && len(ops) < 5; op++ {
			lists(append(slices.Clone(ops), op))
		}
	}
	lists(nil)
}

func TestListsThatEndTooEarlyOrTooLate(t *testing.T) {
	for _, s := range ringCases() {
		whole := mustParse(t, s.ring, "(["+s.others[0]+"]a b* + 0 1) (a + ["+s.zero+"]["+s.one+"]b)")
		checkValid(t, "whole", s.ring, 3, whole, true)
		for n := range whole {
			checkValid(t, "a part", s.ring, 3, whole[:n], false)
			checkValid(t, "an end", s.ring, 3, whole[n:], n == 0 || counted(operations(whole[n:])))
			checkValid(t, "more", s.ring, 3, append(slices.Clone(whole), whole[n]), false)
		}
		checkValid(t, "nothing", s.ring, 3, nil, false)
		checkValid(t, "twice", s.ring, 3, append(slices.Clone(whole), whole...), false)
	}
}

// operations returns the numbers of the operations of a list.
func operations(e []api.ENode) []int {
	var out []int
	for _, x := range e {
		out = append(out, x.Op)
	}
	return out
}

func TestUnknownOperations(t *testing.T) {
	for _, op := range []int{0, -1, 8, 9, math.MaxInt, math.MinInt} {
		checkValid(t, "alone", rational(), 1, []api.ENode{{Op: op}}, false)
		checkValid(t, "an operand", rational(), 1, []api.ENode{{Op: api.ESum}, {Op: api.EOne}, {Op: op}}, false)
		checkValid(t, "with an operand", rational(), 1, []api.ENode{{Op: op}, {Op: api.EOne}}, false)
	}
}

func TestNumbersOfOperations(t *testing.T) {
	for size := 1; size <= api.MaxNodes+10; size++ {
		e := balanced(size).list()
		if len(e) != size {
			t.Fatalf("%d operations, not %d", len(e), size)
		}
		checkValid(t, strconv.Itoa(size)+" operations", rational(), 1, e, size <= api.MaxNodes)
	}
	checkValid(t, "many operations", rational(), 1, balanced(100001).list(), false)
	checkValid(t, "many stars", rational(), 1, slices.Repeat([]api.ENode{{Op: api.EStar}}, 100000), false)
	checkValid(t, "many operations of no kind", rational(), 1, make([]api.ENode, 100000), false)
}

func TestLevels(t *testing.T) {
	for levels := 1; levels <= api.MaxDepth+5; levels++ {
		want := levels <= api.MaxDepth
		what := strconv.Itoa(levels) + " levels"
		for _, second := range []bool{false, true} {
			x := deep(levels, second)
			checkValid(t, what, rational(), 1, x.list(), want)
			if levels == 1 {
				continue
			}
			// A flat operand before or behind the deep one.
			less := deep(levels-1, second)
			checkValid(t, what, rational(), 1, of(api.EProduct, less, letter(1)).list(), want)
			checkValid(t, what, rational(), 1, of(api.EProduct, of(api.EOne), less).list(), want)
			checkValid(t, what, rational(), 1, of(api.ESum, less, less).list(), want)
			checkValid(t, what, rational(), 1, of(api.EStar, less).list(), want)
			checkValid(t, what, rational(), 1, scaled(read(t, rational(), "1/2"), less).list(), want)
		}
		stars := append(slices.Repeat([]api.ENode{{Op: api.EStar}}, levels-1), api.ENode{Op: api.EZero})
		checkValid(t, what, rational(), 1, stars, want)
		chain := append(slices.Repeat([]api.ENode{{Op: api.ESum}}, levels-1), slices.Repeat([]api.ENode{{Op: api.EOne}}, levels)...)
		checkValid(t, what, rational(), 1, chain, want)
	}
}

func TestFieldsThatMustBeZero(t *testing.T) {
	for _, s := range ringCases() {
		for _, x := range []*expression{
			of(api.EZero), of(api.EOne), letter(1), scaled(read(t, s.ring, s.one), letter(1)),
			of(api.ESum, letter(1), letter(2)), of(api.EProduct, letter(1), letter(2)), of(api.EStar, letter(1)),
		} {
			e := x.list()
			checkValid(t, "as it should be", s.ring, 2, e, true)
			// The second round has the operation as an operand.
			for range 2 {
				at := len(e) - len(x.list())
				if x.node.Op != api.ESymbol {
					for _, num := range []int{1, 2, -1, math.MaxInt} {
						f := slices.Clone(e)
						f[at].Num = num
						checkValid(t, "with a Num", s.ring, 2, f, false)
					}
				}
				if x.node.Op != api.EScale {
					for _, w := range filled(t, s) {
						f := slices.Clone(e)
						f[at].Weight = w
						checkValid(t, "with a Weight", s.ring, 2, f, semiring.Equal(w, api.Weight{}))
					}
				}
				e = append([]api.ENode{{Op: api.EProduct}, {Op: api.EOne}}, e...)
			}
		}
	}
}

// filled returns weights with something in each field, the weights of a ring, and two that are zero.
func filled(t *testing.T, s ringCase) []api.Weight {
	t.Helper()
	out := []api.Weight{
		{Q: api.Rat{Neg: true}}, {Q: api.Rat{Num: []uint32{1}}}, {Q: api.Rat{Num: []uint32{0}}}, {Q: api.Rat{Den: []uint32{1}}},
		{Cost: 1}, {Cost: -1}, {Inf: true}, {Set: 1}, {Set: math.MaxUint64}, {Poly: []api.Monomial{{}}}, {Parts: []api.Weight{{}}},
		{}, {Q: api.Rat{Num: []uint32{}, Den: []uint32{}}, Poly: []api.Monomial{}, Parts: []api.Weight{}},
	}
	for _, text := range append(s.others, s.zero, s.one) {
		out = append(out, read(t, s.ring, text))
	}
	return out
}

func TestSymbols(t *testing.T) {
	for _, symbols := range []int{1, 2, 3, api.MaxSymbols} {
		for num := -1; num <= api.MaxSymbols+1; num++ {
			checkValid(t, "a symbol", rational(), symbols, letter(num).list(), num >= 1 && num <= symbols)
			checkValid(t, "two symbols", rational(), symbols, of(api.ESum, letter(1), letter(num)).list(), num >= 1 && num <= symbols)
		}
		for _, num := range []int{math.MaxInt, math.MinInt} {
			checkValid(t, "a symbol", rational(), symbols, letter(num).list(), false)
		}
	}
	for _, symbols := range []int{0, -1, api.MaxSymbols + 1, math.MaxInt, math.MinInt} {
		checkValid(t, "an alphabet", rational(), symbols, letter(1).list(), false)
		checkValid(t, "an alphabet that is not used", rational(), symbols, of(api.EOne).list(), false)
	}
}

func TestFactors(t *testing.T) {
	for _, s := range ringCases() {
		for _, text := range append(s.others, s.zero, s.one) {
			checkValid(t, text, s.ring, 1, scaled(read(t, s.ring, text), letter(1)).list(), true)
		}
		for _, w := range filled(t, s) {
			checkValid(t, "a factor", s.ring, 1, scaled(w, letter(1)).list(), semiring.Check(s.ring, w))
			checkValid(t, "a factor within others", s.ring, 1, scaled(read(t, s.ring, s.one), scaled(w, of(api.EZero))).list(), semiring.Check(s.ring, w))
		}
		for _, other := range ringCases() {
			w := read(t, other.ring, other.others[1])
			checkValid(t, "a factor of another ring", s.ring, 1, scaled(w, letter(1)).list(), semiring.Check(s.ring, w))
		}
	}
	// These are no weights of any ring.
	two, half := []uint32{2}, api.Rat{Num: []uint32{1}, Den: []uint32{2}}
	for _, w := range []api.Weight{
		{Q: api.Rat{Num: two, Den: []uint32{4}}}, {Q: api.Rat{Neg: true}}, {Q: api.Rat{Num: []uint32{1, 0}}}, {Q: half, Set: 1}, {Q: half, Cost: 1},
		{Cost: -1}, {Cost: api.MaxCost + 1}, {Inf: true, Cost: 1}, {Set: 1, Inf: true}, {Poly: []api.Monomial{{}}},
		{Poly: []api.Monomial{{Exps: [api.MaxParams]int{6}, Coef: half}}}, {Parts: []api.Weight{{Q: half}}},
	} {
		for _, s := range ringCases() {
			checkValid(t, "no factor", s.ring, 1, scaled(w, letter(1)).list(), false)
		}
	}
}

func TestRings(t *testing.T) {
	for _, e := range [][]api.ENode{of(api.EOne).list(), letter(1).list(), scaled(api.Weight{}, letter(1)).list(), nil} {
		for _, r := range noRings() {
			checkValid(t, "no ring", r, 1, e, false)
		}
	}
	for _, s := range ringCases() {
		checkValid(t, "a ring", s.ring, 1, of(api.EOne).list(), true)
	}
}
