package semiring

import (
	"math"
	"testing"

	"weighted/api"
	"weighted/polynomial"
	"weighted/rational"
)

// The rings that have one kind.
var (
	rationalRing   = api.Ring{Kind: api.Rational}
	tropicalRing   = api.Ring{Kind: api.Tropical}
	viterbiRing    = api.Ring{Kind: api.Viterbi}
	setsRing       = api.Ring{Kind: api.Sets}
	polynomialRing = api.Ring{Kind: api.Polynomial}
)

// tuple returns the product of kinds.
func tuple(kinds ...int) api.Ring {
	return api.Ring{Kind: api.Product, Parts: kinds}
}

// rings returns all rings: five kinds, and their products of two and three parts.
func rings() []api.Ring {
	var out []api.Ring
	for a := api.Rational; a <= api.Polynomial; a++ {
		out = append(out, api.Ring{Kind: a})
		for b := api.Rational; b <= api.Polynomial; b++ {
			out = append(out, tuple(a, b))
			for c := api.Rational; c <= api.Polynomial; c++ {
				out = append(out, tuple(a, b, c))
			}
		}
	}
	return out
}

// wrongRings returns rings that are not Valid, each for one reason.
func wrongRings() []api.Ring {
	return []api.Ring{
		{},
		{Kind: -1},
		{Kind: 7},
		{Kind: math.MaxInt},
		{Kind: math.MinInt},
		{Kind: api.Rational, Parts: []int{api.Rational}},
		{Kind: api.Tropical, Parts: []int{api.Tropical, api.Tropical}},
		{Kind: api.Viterbi, Parts: []int{0}},
		{Kind: api.Sets, Parts: []int{api.Sets, api.Sets}},
		{Kind: api.Polynomial, Parts: []int{api.Rational, api.Sets, api.Sets}},
		{Kind: 0, Parts: []int{api.Rational, api.Rational}},
		{Kind: 7, Parts: []int{api.Rational, api.Rational}},
		tuple(),
		tuple(api.Rational),
		tuple(api.Rational, api.Rational, api.Rational, api.Rational),
		tuple(api.Rational, 0),
		tuple(-1, api.Rational),
		tuple(api.Rational, api.Product),
		tuple(api.Product, api.Rational),
		tuple(api.Rational, 7),
		tuple(api.Rational, api.Tropical, 0),
		tuple(api.Rational, api.Tropical, api.Product),
		tuple(math.MinInt, math.MaxInt),
	}
}

// number reads a number that a test relies on.
func number(t *testing.T, s string) api.Rat {
	t.Helper()
	x, ok := rational.Parse(s)
	if !ok {
		t.Fatalf("no number: %.40q", s)
	}
	return x
}

// read reads a weight that a test relies on.
func read(t *testing.T, r api.Ring, s string) api.Weight {
	t.Helper()
	w, ok := Parse(r, s)
	if !ok {
		t.Fatalf("%v: no weight: %.60q", r, s)
	}
	return w
}

// expect compares a result with the text of the weight that is expected.
func expect(t *testing.T, what string, r api.Ring, got api.Weight, want string) {
	t.Helper()
	if !Check(r, got) || Format(r, got) != want {
		t.Errorf("%v: %s: %v, %q, not %q", r, what, got, Format(r, got), want)
	}
}

// wrongNumbers returns numbers that are not rational.Valid.
func wrongNumbers() []api.Rat {
	return []api.Rat{
		{Neg: true},
		{Num: []uint32{0}},
		{Num: []uint32{5, 0}, Den: []uint32{7}},
		{Num: []uint32{1}, Den: []uint32{1}},
		{Num: []uint32{2}, Den: []uint32{4}},
		{Num: []uint32{1}, Den: []uint32{2, 0}},
		{Num: []uint32{5}, Den: []uint32{0}},
		{Den: []uint32{2}},
	}
}

// wrongPolynomials returns lists of monomials that are not polynomial.Valid.
func wrongPolynomials(t *testing.T) [][]api.Monomial {
	t.Helper()
	half := number(t, "1/2")
	return [][]api.Monomial{
		{{Coef: api.Rat{}}},
		{{Coef: api.Rat{Num: []uint32{2}, Den: []uint32{4}}}},
		{{Exps: [api.MaxParams]int{-1}, Coef: half}},
		{{Exps: [api.MaxParams]int{2, 2, 2}, Coef: half}},
		{{Coef: half}, {Exps: [api.MaxParams]int{1}, Coef: half}},
		{{Coef: half}, {Coef: half}},
	}
}

func TestValid(t *testing.T) {
	if all := rings(); len(all) != 5+25+125 {
		t.Errorf("%d rings", len(all))
	}
	for _, r := range rings() {
		if !Valid(r) {
			t.Errorf("%v is not valid", r)
		}
	}
	for _, r := range wrongRings() {
		if Valid(r) {
			t.Errorf("%v is valid", r)
		}
	}
	if !Valid(api.Ring{Kind: api.Sets, Parts: []int{}}) {
		t.Error("parts that are empty but not nil")
	}
}

func TestSame(t *testing.T) {
	all := append(rings(), wrongRings()...)
	for i, r := range all {
		for k, s := range all {
			if Same(r, s) != (i == k) {
				t.Errorf("%v and %v: %v", r, s, Same(r, s))
			}
		}
		again := api.Ring{Kind: r.Kind, Parts: append([]int{}, r.Parts...)}
		if !Same(r, again) || !Same(again, r) {
			t.Errorf("%v is not the same as its copy", r)
		}
	}
	if Same(tuple(api.Rational, api.Tropical), tuple(api.Tropical, api.Rational)) {
		t.Error("the order of parts counts")
	}
}

func TestEqual(t *testing.T) {
	monomials := func(a int, coef string) []api.Monomial {
		return []api.Monomial{{Exps: [api.MaxParams]int{a, 1, 0}, Coef: number(t, coef)}}
	}
	all := []api.Weight{
		{},
		{Q: number(t, "2")},
		{Q: number(t, "-2")},
		{Q: number(t, "2/3")},
		{Q: number(t, "2/5")},
		{Q: number(t, "4294967298")},
		{Q: api.Rat{Neg: true}},
		{Q: api.Rat{Num: []uint32{2}, Den: []uint32{1}}},
		{Q: api.Rat{Num: []uint32{4}, Den: []uint32{6}}},
		{Q: api.Rat{Num: []uint32{2, 0}}},
		{Cost: 1},
		{Cost: -1},
		{Inf: true},
		{Inf: true, Cost: 1},
		{Set: 1},
		{Set: 1 << 63},
		{Poly: monomials(1, "1")},
		{Poly: monomials(2, "1")},
		{Poly: monomials(1, "-1")},
		{Poly: monomials(1, "1/2")},
		{Poly: monomials(1, "0")},
		{Poly: append(monomials(2, "1"), monomials(1, "1")...)},
		{Parts: []api.Weight{{}}},
		{Parts: []api.Weight{{}, {}}},
		{Parts: []api.Weight{{}, {Cost: 1}}},
		{Parts: []api.Weight{{Cost: 1}, {}}},
		{Parts: []api.Weight{{Parts: []api.Weight{{}}}}},
		{Q: number(t, "2"), Cost: 1, Inf: true, Set: 3, Poly: monomials(1, "1"), Parts: []api.Weight{{Set: 1}}},
	}
	for i, v := range all {
		for k, w := range all {
			if Equal(v, w) != (i == k) {
				t.Errorf("%v and %v: %v", v, w, Equal(v, w))
			}
		}
		if !Equal(v, duplicate(v)) {
			t.Errorf("%v is not equal to its copy", v)
		}
	}
	empty := api.Weight{Q: api.Rat{Num: []uint32{}, Den: []uint32{}}, Poly: []api.Monomial{}, Parts: []api.Weight{}}
	nested := api.Weight{Parts: []api.Weight{empty}, Poly: []api.Monomial{{Coef: empty.Q}}}
	if !Equal(empty, api.Weight{}) || !Equal(api.Weight{Parts: []api.Weight{{}}, Poly: []api.Monomial{{}}}, nested) {
		t.Error("nil and empty differ")
	}
}

func TestCheck(t *testing.T) {
	for _, x := range []struct {
		r     api.Ring
		right []api.Weight
		wrong []api.Weight
	}{
		{rationalRing, []api.Weight{{}, {Q: number(t, "1")}, {Q: number(t, "-7/3")}, {Q: number(t, "18446744073709551617/2")}}, nil},
		{tropicalRing, []api.Weight{{}, {Cost: 1}, {Cost: api.MaxCost - 1}, {Cost: api.MaxCost}, {Inf: true}}, []api.Weight{
			{Cost: -1}, {Cost: api.MaxCost + 1}, {Cost: math.MaxInt}, {Cost: math.MinInt}, {Inf: true, Cost: 1}, {Inf: true, Cost: -1}, {Inf: true, Cost: api.MaxCost},
		}},
		{viterbiRing, []api.Weight{{}, {Q: number(t, "1")}, {Q: number(t, "1/2")}, {Q: number(t, "4294967295/4294967296")}}, []api.Weight{
			{Q: number(t, "-1/2")}, {Q: number(t, "-1")}, {Q: number(t, "2")}, {Q: number(t, "4294967297/4294967296")}, {Q: number(t, "-1/18446744073709551617")},
		}},
		{setsRing, []api.Weight{{}, {Set: 1}, {Set: 1 << 63}, {Set: math.MaxUint64}}, nil},
		{polynomialRing, []api.Weight{{}, {Poly: polynomial.Parameter(2)}, {Poly: polynomial.Constant(number(t, "-5"))}}, nil},
		{tuple(api.Rational, api.Tropical), []api.Weight{
			{Parts: []api.Weight{{}, {}}}, {Parts: []api.Weight{{Q: number(t, "-3")}, {Inf: true}}},
		}, []api.Weight{
			{}, {Parts: []api.Weight{{}}}, {Parts: []api.Weight{{}, {}, {}}}, {Parts: []api.Weight{{}, {Cost: -1}}}, {Parts: []api.Weight{{Cost: 1}, {}}}, {Parts: []api.Weight{{Q: api.Rat{Neg: true}}, {}}}, {Parts: []api.Weight{{}, {Q: number(t, "1")}}}, {Parts: []api.Weight{{}, {Parts: []api.Weight{{}, {}}}}},
		}},
		{tuple(api.Sets, api.Viterbi, api.Polynomial), []api.Weight{
			{Parts: []api.Weight{{}, {}, {}}}, {Parts: []api.Weight{{Set: 5}, {Q: number(t, "1/3")}, {Poly: polynomial.Parameter(0)}}},
		}, []api.Weight{
			{Parts: []api.Weight{{}, {}}}, {Parts: []api.Weight{{}, {Q: number(t, "4/3")}, {}}}, {Parts: []api.Weight{{Set: 5}, {}, {Set: 5}}}, {Parts: []api.Weight{{}, {}, {}, {}}}, {Parts: []api.Weight{{}, {}, {Poly: []api.Monomial{{}}}}},
		}},
	} {
		for _, w := range x.right {
			if !Check(x.r, w) {
				t.Errorf("%v: %v is no weight", x.r, w)
			}
		}
		for _, w := range append(x.wrong, strays(t, x.r)...) {
			if Check(x.r, w) {
				t.Errorf("%v: %v is a weight", x.r, w)
			}
		}
	}
	for _, r := range wrongRings() {
		for _, w := range []api.Weight{{}, {Cost: 1}, {Parts: []api.Weight{{}, {}}}, {Parts: []api.Weight{{}}}} {
			if Check(r, w) {
				t.Errorf("%v: %v is a weight", r, w)
			}
		}
	}
}

// strays returns weights that are not of r, each for one reason: a field that the ring does not name is set, or a number, a polynomial or a part is not valid.
func strays(t *testing.T, r api.Ring) []api.Weight {
	t.Helper()
	var out []api.Weight
	named := map[int]string{api.Rational: "Q", api.Tropical: "Cost", api.Viterbi: "Q", api.Sets: "Set", api.Polynomial: "Poly", api.Product: "Parts"}[r.Kind]
	for _, w := range []api.Weight{Zero(r), One(r)} {
		set := func(field string, change func(w *api.Weight)) {
			if field != named {
				v := w
				change(&v)
				out = append(out, v)
			}
		}
		set("Q", func(w *api.Weight) { w.Q = number(t, "1") })
		set("Q", func(w *api.Weight) { w.Q = api.Rat{Neg: true} })
		set("Q", func(w *api.Weight) { w.Q = api.Rat{Den: []uint32{2}} })
		set("Cost", func(w *api.Weight) { w.Cost = 1 })
		set("Cost", func(w *api.Weight) { w.Cost = -1 })
		set("Cost", func(w *api.Weight) { w.Inf = true })
		set("Set", func(w *api.Weight) { w.Set = 1 << 40 })
		set("Poly", func(w *api.Weight) { w.Poly = polynomial.Parameter(1) })
		set("Poly", func(w *api.Weight) { w.Poly = []api.Monomial{{}} })
		set("Parts", func(w *api.Weight) { w.Parts = []api.Weight{{}} })
		set("Parts", func(w *api.Weight) { w.Parts = []api.Weight{{}, {}} })
	}
	if named == "Q" {
		for _, x := range wrongNumbers() {
			out = append(out, api.Weight{Q: x})
		}
	}
	if named == "Poly" {
		for _, p := range wrongPolynomials(t) {
			out = append(out, api.Weight{Poly: p})
		}
	}
	for i, kind := range r.Parts {
		for _, part := range strays(t, api.Ring{Kind: kind}) {
			w := One(r)
			w.Parts[i] = part
			out = append(out, w)
		}
	}
	return out
}

func TestWeightOfAnotherRingCountsAsZero(t *testing.T) {
	for _, r := range rings() {
		zero, one := Zero(r), One(r)
		for _, w := range strays(t, r) {
			if Check(r, w) {
				t.Fatalf("%v: %v is a weight", r, w)
			}
			if v := Plus(r, w, one); !Equal(v, Plus(r, zero, one)) {
				t.Errorf("%v: %v plus One is %v", r, w, v)
			}
			if v := Plus(r, one, w); !Equal(v, Plus(r, one, zero)) {
				t.Errorf("%v: One plus %v is %v", r, w, v)
			}
			if !Equal(Plus(r, w, w), zero) || !Equal(Times(r, w, one), zero) || !Equal(Times(r, one, w), zero) || !Equal(Times(r, w, w), zero) {
				t.Errorf("%v: %v does not count as Zero", r, w)
			}
			star, e := Star(r, w)
			if want, _ := Star(r, zero); e != api.OK || !Equal(star, want) {
				t.Errorf("%v: star of %v is %v, %v", r, w, star, e)
			}
			if Better(r, w, zero) || Better(r, zero, w) || Better(r, w, one) || Better(r, one, w) != Better(r, one, zero) {
				t.Errorf("%v: %v is compared", r, w)
			}
			if s := Format(r, w); s != Format(r, zero) {
				t.Errorf("%v: %v is written as %s", r, w, s)
			}
		}
	}
}

func TestRingThatIsNotValid(t *testing.T) {
	for _, r := range wrongRings() {
		for _, w := range []api.Weight{{}, {Q: number(t, "2")}, {Cost: 1}, {Set: 1}, {Parts: []api.Weight{{}, {}}}, {Parts: []api.Weight{{Cost: 3}, {Cost: 3}, {Cost: 3}, {Cost: 3}}}} {
			star, e := Star(r, w)
			if e != api.ErrRing {
				t.Errorf("%v: star: %v", r, e)
			}
			for _, v := range []api.Weight{Zero(r), One(r), Plus(r, w, w), Times(r, w, w), star} {
				if !Equal(v, api.Weight{}) {
					t.Errorf("%v: %v", r, v)
				}
			}
			if Better(r, w, api.Weight{}) || Better(r, api.Weight{}, w) || Format(r, w) != "" {
				t.Errorf("%v: %v is compared or written", r, w)
			}
		}
		for _, s := range []string{"", "0", "1", "inf", "0|0", "0000000000000000", "0|0|0|0"} {
			if w, ok := Parse(r, s); ok || !Equal(w, api.Weight{}) {
				t.Errorf("%v: %q is read", r, s)
			}
		}
	}
}

func TestZeroAndOne(t *testing.T) {
	one := number(t, "1")
	zeros := map[int]api.Weight{api.Tropical: {Inf: true}}
	ones := map[int]api.Weight{api.Rational: {Q: one}, api.Viterbi: {Q: one}, api.Sets: {Set: math.MaxUint64}, api.Polynomial: {Poly: []api.Monomial{{Coef: one}}}}
	for _, r := range rings() {
		zero, unit := zeros[r.Kind], ones[r.Kind]
		for _, kind := range r.Parts {
			zero.Parts = append(zero.Parts, zeros[kind])
			unit.Parts = append(unit.Parts, ones[kind])
		}
		if v := Zero(r); !Equal(v, zero) || !Check(r, v) {
			t.Errorf("%v: Zero is %v", r, v)
		}
		if v := One(r); !Equal(v, unit) || !Check(r, v) {
			t.Errorf("%v: One is %v", r, v)
		}
	}
}

func TestPlusAndTimes(t *testing.T) {
	for _, x := range []struct {
		r                    api.Ring
		v, w, total, product string
	}{
		{rationalRing, "1/2", "-2/3", "-1/6", "-1/3"},
		{rationalRing, "1/2", "-1/2", "0", "-1/4"},
		{rationalRing, "0", "5", "5", "0"},
		{rationalRing, "99999999999999999999", "1/99999999999999999999", "9999999999999999999800000000000000000002/99999999999999999999", "1"},
		{tropicalRing, "3", "5", "3", "8"},
		{tropicalRing, "0", "5", "0", "5"},
		{tropicalRing, "4", "4", "4", "8"},
		{tropicalRing, "inf", "5", "5", "inf"},
		{tropicalRing, "inf", "0", "0", "inf"},
		{tropicalRing, "inf", "inf", "inf", "inf"},
		{tropicalRing, "1099511627776", "1", "1", "inf"},
		{tropicalRing, "1099511627776", "0", "0", "1099511627776"},
		{tropicalRing, "1099511627775", "1", "1", "1099511627776"},
		{tropicalRing, "549755813888", "549755813888", "549755813888", "1099511627776"},
		{tropicalRing, "549755813888", "549755813889", "549755813888", "inf"},
		{tropicalRing, "1099511627776", "1099511627776", "1099511627776", "inf"},
		{tropicalRing, "1099511627776", "inf", "1099511627776", "inf"},
		{viterbiRing, "1/2", "2/3", "2/3", "1/3"},
		{viterbiRing, "0", "2/3", "2/3", "0"},
		{viterbiRing, "1", "2/3", "1", "2/3"},
		{viterbiRing, "1", "1", "1", "1"},
		{viterbiRing, "18446744073709551616/18446744073709551617", "18446744073709551615/18446744073709551616", "18446744073709551616/18446744073709551617", "18446744073709551615/18446744073709551617"},
		{setsRing, "00000000000000ff", "0000000000000f0f", "0000000000000fff", "000000000000000f"},
		{setsRing, "8000000000000001", "7ffffffffffffffe", "ffffffffffffffff", "0000000000000000"},
		{polynomialRing, "a+b", "a+b", "2*a+2*b", "a^2+2*a*b+b^2"},
		{polynomialRing, "a^3-1", "-b^3+1", "a^3-b^3", "a^3+b^3-1"},
		{polynomialRing, "0", "c", "c", "0"},
		{tuple(api.Rational, api.Tropical), "1/2|3", "1/3|5", "5/6|3", "1/6|8"},
		{tuple(api.Rational, api.Tropical), "0|inf", "1/3|5", "1/3|5", "0|inf"},
		{tuple(api.Tropical, api.Rational), "1099511627776|-1", "1|1", "1|0", "inf|-1"},
		{tuple(api.Viterbi, api.Viterbi), "1/2|1/3", "1/3|1/2", "1/2|1/2", "1/6|1/6"},
		{tuple(api.Sets, api.Polynomial, api.Tropical), "0000000000000003|a|7", "0000000000000006|b-1|2", "0000000000000007|a+b-1|2", "0000000000000002|a*b-a|9"},
	} {
		v, w := read(t, x.r, x.v), read(t, x.r, x.w)
		name := x.v + " and " + x.w
		expect(t, name+" plus", x.r, Plus(x.r, v, w), x.total)
		expect(t, name+" plus back", x.r, Plus(x.r, w, v), x.total)
		expect(t, name+" times", x.r, Times(x.r, v, w), x.product)
		expect(t, name+" times back", x.r, Times(x.r, w, v), x.product)
	}
}

func TestStar(t *testing.T) {
	for _, x := range []struct {
		r    api.Ring
		w, s string
	}{
		{rationalRing, "0", "1"},
		{rationalRing, "1/2", "2"},
		{rationalRing, "-1/2", "2/3"},
		{rationalRing, "18446744073709551615/18446744073709551616", "18446744073709551616"},
		{rationalRing, "-18446744073709551615/18446744073709551616", "18446744073709551616/36893488147419103231"},
		{tropicalRing, "0", "0"},
		{tropicalRing, "7", "0"},
		{tropicalRing, "inf", "0"},
		{tropicalRing, "1099511627776", "0"},
		{viterbiRing, "0", "1"},
		{viterbiRing, "1/2", "1"},
		{viterbiRing, "1", "1"},
		{setsRing, "0000000000000000", "ffffffffffffffff"},
		{setsRing, "00000000000000f0", "ffffffffffffffff"},
		{setsRing, "ffffffffffffffff", "ffffffffffffffff"},
		{polynomialRing, "0", "1"},
		{polynomialRing, "a+1/2", "64*a^5+32*a^4+16*a^3+8*a^2+4*a+2"},
		{polynomialRing, "-7*a^3*b", "-7*a^3*b+1"},
		{tuple(api.Rational, api.Tropical), "1/2|7", "2|0"},
		{tuple(api.Rational, api.Tropical), "0|inf", "1|0"},
		{tuple(api.Viterbi, api.Polynomial, api.Sets), "1|a^4-1/3|0000000000000001", "1|9/16*a^4+3/4|ffffffffffffffff"},
		{tuple(api.Rational, api.Rational, api.Rational), "1/2|1/3|-3/4", "2|3/2|4/7"},
	} {
		w := read(t, x.r, x.w)
		s, e := Star(x.r, w)
		expect(t, "star of "+x.w, x.r, s, x.s)
		if e != api.OK || !Equal(s, Plus(x.r, One(x.r), Times(x.r, w, s))) {
			t.Errorf("%v: star of %s: %v", x.r, x.w, e)
		}
	}
}

func TestStarThatDoesNotExist(t *testing.T) {
	for _, x := range []struct {
		r api.Ring
		w string
	}{
		{rationalRing, "1"},
		{rationalRing, "-1"},
		{rationalRing, "2"},
		{rationalRing, "-3/2"},
		{rationalRing, "18446744073709551617/18446744073709551616"},
		{polynomialRing, "1"},
		{polynomialRing, "a-1"},
		{polynomialRing, "a^5+b+3/2"},
		{tuple(api.Rational, api.Tropical), "1|7"},
		{tuple(api.Tropical, api.Rational), "7|-1"},
		{tuple(api.Rational, api.Rational, api.Rational), "1|0|0"},
		{tuple(api.Rational, api.Rational, api.Rational), "0|1|0"},
		{tuple(api.Rational, api.Rational, api.Rational), "0|0|-1"},
		{tuple(api.Viterbi, api.Polynomial), "1|a+1"},
		{tuple(api.Sets, api.Viterbi, api.Polynomial), "0000000000000000|0|2"},
	} {
		if s, e := Star(x.r, read(t, x.r, x.w)); e != api.ErrStar || !Equal(s, api.Weight{}) {
			t.Errorf("%v: star of %s: %v, %v", x.r, x.w, s, e)
		}
	}
}

func TestBetter(t *testing.T) {
	// Each weight is better than those behind it.
	for _, x := range []struct {
		r     api.Ring
		order []string
	}{
		{tropicalRing, []string{"0", "1", "2", "10", "1099511627775", "1099511627776", "inf"}},
		{viterbiRing, []string{"1", "18446744073709551616/18446744073709551617", "2/3", "1/2", "1/3", "1/18446744073709551617", "0"}},
	} {
		for i, s := range x.order {
			for k, u := range x.order {
				if Better(x.r, read(t, x.r, s), read(t, x.r, u)) != (i < k) {
					t.Errorf("%v: %s and %s", x.r, s, u)
				}
			}
		}
	}
	for _, r := range rings() {
		if r.Kind == api.Tropical || r.Kind == api.Viterbi {
			continue
		}
		if Better(r, Zero(r), One(r)) || Better(r, One(r), Zero(r)) || Better(r, One(r), One(r)) {
			t.Errorf("%v has an order", r)
		}
	}
}

func TestDeepParts(t *testing.T) {
	deep := func(cost int) api.Weight {
		w := api.Weight{Cost: cost}
		for range 1 << 16 {
			w = api.Weight{Parts: []api.Weight{w}}
		}
		return w
	}
	v, w := deep(1), deep(2)
	if Equal(v, w) || !Equal(v, deep(1)) {
		t.Error("parts of parts are not compared to the end")
	}
	for _, r := range rings() {
		if Check(r, v) || !Equal(Plus(r, v, One(r)), One(r)) {
			t.Errorf("%v: a weight with parts of parts counts", r)
		}
	}
}
