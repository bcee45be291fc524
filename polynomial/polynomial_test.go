package polynomial

import (
	"math"
	"slices"
	"strings"
	"testing"

	"weighted/api"
	"weighted/rational"
)

// number reads a number that a test relies on.
func number(t *testing.T, s string) api.Rat {
	t.Helper()
	x, ok := rational.Parse(s)
	if !ok {
		t.Fatalf("no number: %.40q", s)
	}
	return x
}

// term returns a monomial.
func term(t *testing.T, coef string, a, b, c int) api.Monomial {
	t.Helper()
	return api.Monomial{Exps: [api.MaxParams]int{a, b, c}, Coef: number(t, coef)}
}

// read reads a polynomial that a test relies on.
func read(t *testing.T, s string) []api.Monomial {
	t.Helper()
	p, ok := Parse(s)
	if !ok {
		t.Fatalf("no polynomial: %.60q", s)
	}
	return p
}

// same reports whether two polynomials have the same fields.
func same(p, q []api.Monomial) bool {
	return slices.EqualFunc(p, q, func(m, n api.Monomial) bool {
		return m.Exps == n.Exps && sameNumber(m.Coef, n.Coef)
	})
}

// sameNumber reports whether two numbers have the same fields.
func sameNumber(x, y api.Rat) bool {
	return x.Neg == y.Neg && slices.Equal(x.Num, y.Num) && slices.Equal(x.Den, y.Den)
}

// check compares a result with the text of the polynomial that is expected.
func check(t *testing.T, what string, got []api.Monomial, want string) {
	t.Helper()
	if !Valid(got) || Format(got) != want {
		t.Errorf("%.60s: %.200s (%d monomials), not %.200s", what, Format(got), len(got), want)
	}
}

// point returns numbers for the parameters.
func point(t *testing.T, a, b, c string) [api.MaxParams]api.Rat {
	t.Helper()
	return [api.MaxParams]api.Rat{number(t, a), number(t, b), number(t, c)}
}

// invalidNumbers returns numbers that are not rational.Valid.
func invalidNumbers() []api.Rat {
	return []api.Rat{
		{Neg: true},
		{Num: []uint32{0}},
		{Num: []uint32{5, 0}},
		{Num: []uint32{5}, Den: []uint32{1}},
		{Num: []uint32{5}, Den: []uint32{0}},
		{Num: []uint32{4}, Den: []uint32{6}},
		{Den: []uint32{2}},
	}
}

// invalid returns polynomials that are not Valid, each for one reason.
func invalid(t *testing.T) [][]api.Monomial {
	t.Helper()
	out := [][]api.Monomial{
		{term(t, "1", -1, 0, 0)},
		{term(t, "1", 0, -1, 0)},
		{term(t, "1", 0, 0, -1)},
		{term(t, "1", 2, 2, -1)},
		{term(t, "1", -1, 5, 1)},
		{term(t, "1", math.MinInt, 0, 0)},
		{term(t, "1", 6, 0, 0)},
		{term(t, "1", 0, 6, 0)},
		{term(t, "1", 0, 0, 6)},
		{term(t, "1", 5, 0, 1)},
		{term(t, "1", 2, 2, 2)},
		{term(t, "1", math.MaxInt, 0, 0)},
		{term(t, "1", math.MaxInt, math.MaxInt, 2)},
		{term(t, "1", math.MaxInt, 1, 0)},
		{term(t, "0", 0, 0, 0)},
		{term(t, "0", 1, 2, 0)},
		{term(t, "1", 1, 0, 0), term(t, "1", 1, 0, 0)},
		{term(t, "1", 0, 0, 0), term(t, "-1", 0, 0, 0)},
		{term(t, "1", 0, 0, 0), term(t, "1", 1, 0, 0)},
		{term(t, "1", 0, 1, 0), term(t, "1", 1, 0, 0)},
		{term(t, "1", 0, 5, 0), term(t, "1", 1, 0, 0)},
		{term(t, "1", 0, 0, 5), term(t, "1", 0, 1, 0)},
		{term(t, "1", 1, 0, 0), term(t, "1", 1, 0, 2)},
		{term(t, "1", 2, 0, 0), term(t, "1", 0, 1, 0), term(t, "1", 1, 0, 0)},
		{term(t, "1", 2, 0, 0), term(t, "0", 1, 0, 0), term(t, "1/2", 0, 0, 0)},
		{term(t, "1", 6, 0, 0), term(t, "1/2", 0, 0, 0)},
	}
	for _, x := range invalidNumbers() {
		out = append(out, []api.Monomial{{Coef: x}}, []api.Monomial{term(t, "1", 1, 0, 0), {Coef: x}}, []api.Monomial{{Exps: [api.MaxParams]int{1}, Coef: x}, term(t, "1/2", 0, 0, 0)})
	}
	return out
}

// whole returns the polynomial with all monomials, whose coefficients are all 1.
func whole(t *testing.T) []api.Monomial {
	t.Helper()
	var p []api.Monomial
	for a := api.MaxDegree; a >= 0; a-- {
		for b := api.MaxDegree - a; b >= 0; b-- {
			for c := api.MaxDegree - a - b; c >= 0; c-- {
				p = append(p, term(t, "1", a, b, c))
			}
		}
	}
	return p
}

func TestValid(t *testing.T) {
	for _, p := range invalid(t) {
		if Valid(p) {
			t.Errorf("%v is valid", p)
		}
	}
	for _, p := range [][]api.Monomial{
		nil,
		{},
		{term(t, "1", 0, 0, 0)},
		{term(t, "-7/3", 0, 0, 0)},
		{term(t, "1", 5, 0, 0)},
		{term(t, "1", 0, 5, 0)},
		{term(t, "1", 0, 0, 5)},
		{term(t, "-1", 2, 2, 1)},
		{term(t, "1", 1, 0, 0), term(t, "1", 0, 5, 0)},
		{term(t, "1", 1, 1, 0), term(t, "1", 1, 0, 4), term(t, "1", 1, 0, 3)},
		{term(t, "1", 1, 0, 0), term(t, "1", 0, 1, 0), term(t, "1", 0, 0, 1), term(t, "1", 0, 0, 0)},
		{{Exps: [api.MaxParams]int{1}, Coef: api.Rat{Neg: true, Num: []uint32{0, 1}, Den: []uint32{3}}}},
		whole(t),
	} {
		if !Valid(p) {
			t.Errorf("%v is not valid", p)
		}
	}
	if p := whole(t); len(p) != 56 {
		t.Errorf("%d monomials", len(p))
	}
}

func TestInvalidCountsAsZero(t *testing.T) {
	other := read(t, "3*a*b - 1/2*c + 1/4")
	for _, p := range invalid(t) {
		check(t, "added", Add(p, other), "3*a*b - 1/2*c + 1/4")
		check(t, "added to", Add(other, p), "3*a*b - 1/2*c + 1/4")
		check(t, "added to itself", Add(p, p), "0")
		check(t, "multiplied", Mul(p, other), "0")
		check(t, "multiplied with", Mul(other, p), "0")
		check(t, "scaled", Scale(p, number(t, "7")), "0")
		star, e := Star(p)
		check(t, "star", star, "1")
		if e != api.OK {
			t.Errorf("%v: star: %v", p, e)
		}
		if x := Lowest(p); !sameNumber(x, api.Rat{}) {
			t.Errorf("%v: lowest %v", p, x)
		}
		if x := Eval(p, point(t, "1", "2", "3")); !sameNumber(x, api.Rat{}) {
			t.Errorf("%v: value %v", p, x)
		}
		if s := Format(p); s != "0" {
			t.Errorf("%v: %s", p, s)
		}
	}
	for _, x := range invalidNumbers() {
		check(t, "constant", Constant(x), "0")
		check(t, "scaled with it", Scale(other, x), "0")
		at := point(t, "2", "5", "3")
		at[1] = x
		// b counts as 0, and its power 0 as 1.
		if got := Eval(read(t, "a*b + a*c + 1"), at); rational.Format(got) != "7" {
			t.Errorf("%v: value %s", x, rational.Format(got))
		}
	}
}

func TestConstant(t *testing.T) {
	for _, s := range []string{"1", "-1", "7/3", "-123456789012345678901234567890/7"} {
		if got := Constant(number(t, s)); !same(got, []api.Monomial{term(t, s, 0, 0, 0)}) {
			t.Errorf("%s: %v", s, got)
		}
	}
	if got := Constant(api.Rat{}); len(got) != 0 {
		t.Errorf("0: %v", got)
	}
}

func TestParameter(t *testing.T) {
	for i, want := range []api.Monomial{term(t, "1", 1, 0, 0), term(t, "1", 0, 1, 0), term(t, "1", 0, 0, 1)} {
		if got := Parameter(i); !same(got, []api.Monomial{want}) {
			t.Errorf("%d: %v", i, got)
		}
		check(t, "parameter", Parameter(i), "abc"[i:i+1])
	}
	for _, i := range []int{-1, api.MaxParams, 4, math.MinInt, math.MaxInt} {
		if got := Parameter(i); len(got) != 0 {
			t.Errorf("%d: %v", i, got)
		}
	}
}

func TestAddAndMul(t *testing.T) {
	for _, x := range [][4]string{
		{"a + b", "a + b", "2*a + 2*b", "a^2 + 2*a*b + b^2"},
		{"a + b", "a - b", "2*a", "a^2 - b^2"},
		{"a + b", "-a - b", "0", "-a^2 - 2*a*b - b^2"},
		{"0", "0", "0", "0"},
		{"0", "a + 1/2", "a + 1/2", "0"},
		{"1", "a + 1/2", "a + 3/2", "a + 1/2"},
		{"1/2", "-1/2", "0", "-1/4"},
		{"1/2*a + 1/3", "2/3*a + 3/4", "7/6*a + 13/12", "1/3*a^2 + 43/72*a + 1/4"},
		{"a", "b", "a + b", "a*b"},
		{"b", "a", "a + b", "a*b"},
		{"c", "a*b", "a*b + c", "a*b*c"},
		{"a^2 + 1", "b^3 + c", "a^2 + b^3 + c + 1", "a^2*b^3 + a^2*c + b^3 + c"},
		{"a^5", "a", "a^5 + a", "0"},
		{"a^4", "a", "a^4 + a", "a^5"},
		{"a^2*b", "b*c", "a^2*b + b*c", "a^2*b^2*c"},
		{"a^2*b^2", "b*c", "a^2*b^2 + b*c", "0"},
		{"a^2*b^2*c", "a + b + c + 3", "a^2*b^2*c + a + b + c + 3", "3*a^2*b^2*c"},
		{"a^3 + a^2 + 1", "b^3 + b^2 + 1", "a^3 + a^2 + b^3 + b^2 + 2", "a^3*b^2 + a^3 + a^2*b^3 + a^2*b^2 + a^2 + b^3 + b^2 + 1"},
		{"c^5 + c", "c^5 - c", "2*c^5", "-c^2"},
		{"a + 1", "a^4 - a^3 + a^2 - a + 1", "a^4 - a^3 + a^2 + 2", "a^5 + 1"},
	} {
		p, q := read(t, x[0]), read(t, x[1])
		name := x[0] + " and " + x[1]
		check(t, name+" add", Add(p, q), x[2])
		check(t, name+" mul", Mul(p, q), x[3])
		check(t, name+" add back", Add(q, p), x[2])
		check(t, name+" mul back", Mul(q, p), x[3])
	}
}

func TestHighDegrees(t *testing.T) {
	for i := range api.MaxParams {
		power := Constant(number(t, "1"))
		for k := 1; k <= api.MaxDegree; k++ {
			power = Mul(power, Parameter(i))
			want := api.Monomial{Coef: number(t, "1")}
			want.Exps[i] = k
			if !same(power, []api.Monomial{want}) {
				t.Errorf("power %d: %v", k, power)
			}
		}
		check(t, "the sixth power", Mul(power, Parameter(i)), "0")
	}
	p := whole(t)
	top := Mul(p, p)
	if !Valid(top) || len(top) != 56 {
		t.Errorf("%d monomials", len(top))
	}
	for _, m := range top {
		// A monomial is the product of two in as many ways as there are monomials that divide it.
		want := (m.Exps[0] + 1) * (m.Exps[1] + 1) * (m.Exps[2] + 1)
		if got, _ := rational.Whole(m.Coef); got != want {
			t.Errorf("%v: %d ways", m.Exps, got)
		}
	}
}

func TestScale(t *testing.T) {
	for _, x := range [][3]string{
		{"a^5 - 1/2*b + 3", "-2/3", "-2/3*a^5 + 1/3*b - 2"},
		{"a^5 - 1/2*b + 3", "1", "a^5 - 1/2*b + 3"},
		{"a^5 - 1/2*b + 3", "0", "0"},
		{"0", "5", "0"},
		{"3/2", "2/3", "1"},
	} {
		check(t, x[0]+" times "+x[1], Scale(read(t, x[0]), number(t, x[1])), x[2])
	}
}

func TestLowest(t *testing.T) {
	for s, want := range map[string]string{"0": "0", "5/3": "5/3", "a": "0", "c": "0", "a - 1/2": "-1/2", "a^5 + 3*c + 7": "7", "2*a + 3*b": "0"} {
		if got := Lowest(read(t, s)); !sameNumber(got, number(t, want)) {
			t.Errorf("%s: %v", s, got)
		}
	}
}

func TestStar(t *testing.T) {
	many := strings.Repeat("9", 40)
	huge := "1" + strings.Repeat("0", 40)
	for s, want := range map[string]string{
		"0":                                    "1",
		"1/2":                                  "2",
		"-1/2":                                 "2/3",
		"a + 1/2":                              "64*a^5 + 32*a^4 + 16*a^3 + 8*a^2 + 4*a + 2",
		"a":                                    "a^5 + a^4 + a^3 + a^2 + a + 1",
		"-b":                                   "-b^5 + b^4 - b^3 + b^2 - b + 1",
		"c - 1/2":                              "64/729*c^5 + 32/243*c^4 + 16/81*c^3 + 8/27*c^2 + 4/9*c + 2/3",
		"a^2*b":                                "a^2*b + 1",
		"a^5 + 1/3":                            "9/4*a^5 + 3/2",
		"a*b":                                  "a^2*b^2 + a*b + 1",
		"a^2 + a":                              "8*a^5 + 5*a^4 + 3*a^3 + 2*a^2 + a + 1",
		"a^2 - b^3":                            "a^4 - 2*a^2*b^3 + a^2 - b^3 + 1",
		many + "/" + huge:                      huge,
		"-" + many + "/" + huge:                huge + "/1" + strings.Repeat("9", 40),
		"a^3 + " + many + "/" + huge:           "1" + strings.Repeat("0", 80) + "*a^3 + " + huge,
		"a^4*b - 2*c^5 + " + many + "/" + huge: "1" + strings.Repeat("0", 80) + "*a^4*b - 2" + strings.Repeat("0", 80) + "*c^5 + " + huge,
	} {
		p := read(t, s)
		got, e := Star(p)
		check(t, s, got, want)
		if e != api.OK || !same(got, Add(Constant(number(t, "1")), Mul(p, got))) {
			t.Errorf("%s: %v", s, e)
		}
	}
}

func TestStarThatDoesNotExist(t *testing.T) {
	for _, s := range []string{"1", "-1", "a + 1", "a - 1", "3/2", "-3/2", "a^5 + b - 7", "100000000000000000000000000000000000001/100000000000000000000000000000000000000", "a - 18446744073709551616"} {
		if got, e := Star(read(t, s)); e != api.ErrStar || len(got) != 0 {
			t.Errorf("%s: %v %v", s, got, e)
		}
	}
	for _, s := range []string{"1000000*a", "-5*a - 5*b - 5*c"} {
		if _, e := Star(read(t, s)); e != api.OK {
			t.Errorf("%s: %v", s, e)
		}
	}
}

func TestStarOfSumsOfParameters(t *testing.T) {
	got, e := Star(read(t, "a + b + c"))
	if e != api.OK || !Valid(got) || len(got) != 56 {
		t.Fatalf("%d monomials, %v", len(got), e)
	}
	factorial := []int{1, 1, 2, 6, 24, 120}
	for _, m := range got {
		a, b, c := m.Exps[0], m.Exps[1], m.Exps[2]
		want := factorial[a+b+c] / factorial[a] / factorial[b] / factorial[c]
		if v, _ := rational.Whole(m.Coef); v != want {
			t.Errorf("%v: %d, not %d", m.Exps, v, want)
		}
	}
}

func TestEval(t *testing.T) {
	for _, x := range [][5]string{
		{"0", "1", "2", "3", "0"},
		{"7/3", "1", "2", "3", "7/3"},
		{"a", "5", "2", "3", "5"},
		{"b", "5", "2", "3", "2"},
		{"c", "5", "2", "3", "3"},
		{"a^2*b - 1/2*c + 1", "3", "-1/2", "5", "-6"},
		{"a^5 + b^5 + c^5", "2", "-1", "1/2", "993/32"},
		{"a^2*b^2*c", "-2", "3", "1/5", "36/5"},
		{"a*b + c + 4", "0", "0", "0", "4"},
		{"a - b", "7/2", "7/2", "1", "0"},
	} {
		if got := Eval(read(t, x[0]), point(t, x[1], x[2], x[3])); !sameNumber(got, number(t, x[4])) {
			t.Errorf("%s at %v: %s", x[0], x[1:4], rational.Format(got))
		}
	}
}

// spread returns p with room behind its monomials and behind their limbs, all of which is filled.
func spread(p []api.Monomial) (out, all []api.Monomial) {
	for _, m := range p {
		num, den := append(slices.Clone(m.Coef.Num), 7, 7), append(slices.Clone(m.Coef.Den), 7, 7)
		all = append(all, api.Monomial{Exps: m.Exps, Coef: api.Rat{Neg: m.Coef.Neg, Num: num[:len(m.Coef.Num)], Den: den[:len(m.Coef.Den)]}})
	}
	for range 3 {
		all = append(all, api.Monomial{Exps: [api.MaxParams]int{9, 9, 9}, Coef: api.Rat{Num: []uint32{9}}})
	}
	return all[:len(p):len(all)], all
}

// copied returns p in new memory, with what stands behind the limbs.
func copied(p []api.Monomial) []api.Monomial {
	var out []api.Monomial
	for _, m := range p {
		num, den := m.Coef.Num, m.Coef.Den
		out = append(out, api.Monomial{Exps: m.Exps, Coef: api.Rat{Neg: m.Coef.Neg, Num: slices.Clone(num[:cap(num)]), Den: slices.Clone(den[:cap(den)])}})
	}
	return out
}

func TestArgumentsAreLeftAlone(t *testing.T) {
	texts := []string{"0", "3", "a - 1/2", "2/3*a^2*b - 1/7*c + 1/3", "123456789012345678901234567891/7*a^5 - b - 1/12345678901234567890"}
	for _, s := range texts {
		for _, u := range texts {
			p, pAll := spread(read(t, s))
			q, qAll := spread(read(t, u))
			pBefore, qBefore := copied(pAll), copied(qAll)
			at := [api.MaxParams]api.Rat{Lowest(q), Lowest(p), number(t, "5/3")}
			c := Lowest(q)
			star, _ := Star(p)
			for _, r := range [][]api.Monomial{Add(p, q), Mul(p, q), Scale(p, c), Constant(c), star} {
				_ = append(r, api.Monomial{})
			}
			_, _ = Eval(p, at), Lowest(p)
			_, _ = Format(p), Valid(p)
			if !same(copied(pAll), pBefore) || !same(copied(qAll), qBefore) || !sameNumber(c, Lowest(q)) {
				t.Errorf("%s and %s: an argument has changed", s, u)
			}
		}
	}
}

// overwrite changes all limbs of a result, and reports whether that changes other limbs of it.
func overwrite(p []api.Monomial) bool {
	shared := false
	for i := range p {
		before := copied(p[i+1:])
		for _, limbs := range [][]uint32{p[i].Coef.Num, p[i].Coef.Den} {
			limbs = limbs[:cap(limbs)]
			for k := range limbs {
				limbs[k] = 99
			}
		}
		shared = shared || !same(before, copied(p[i+1:]))
	}
	return shared
}

func TestMemory(t *testing.T) {
	p, q := read(t, "2/3*a - 1/2*b + 1/3"), read(t, "1/7*a + c - 5/2")
	c := number(t, "3/5")
	star, _ := Star(p)
	for i, r := range [][]api.Monomial{
		Add(p, nil), Add(nil, p), Add(p, q), Mul(p, q), Mul(p, Constant(number(t, "1"))), Mul(Constant(number(t, "1")), p), Scale(p, number(t, "1")), Scale(Constant(number(t, "1")), c), Constant(c), Parameter(0), star, read(t, "2/3*a - 1/2*b + 1/3"),
		{{Coef: Lowest(p)}}, {{Coef: Eval(p, point(t, "0", "0", "0"))}}, {{Coef: Eval(Parameter(0), [api.MaxParams]api.Rat{c, c, c})}},
	} {
		if overwrite(r) {
			t.Errorf("result %d shares memory with itself", i)
		}
	}
	check(t, "argument", p, "2/3*a - 1/2*b + 1/3")
	check(t, "argument", q, "1/7*a + c - 5/2")
	check(t, "parameter", Parameter(0), "a")
	if !sameNumber(c, number(t, "3/5")) {
		t.Errorf("a number has changed: %v", c)
	}
}
