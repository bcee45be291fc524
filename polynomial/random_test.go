package polynomial

import (
	"math/big"
	"math/rand"
	"slices"
	"testing"

	"weighted/api"
	"weighted/rational"
)

// table is a polynomial with a number of the standard library for each of its exponents.
type table map[[api.MaxParams]int]*big.Rat

// tabled returns p as a table.
func tabled(t *testing.T, p []api.Monomial) table {
	t.Helper()
	out := table{}
	for _, m := range p {
		out[m.Exps] = library(t, m.Coef)
	}
	return out
}

// library returns x as a number of the standard library.
func library(t *testing.T, x api.Rat) *big.Rat {
	t.Helper()
	out, ok := new(big.Rat).SetString(rational.Format(x))
	if !ok {
		t.Fatalf("no number: %v", x)
	}
	return out
}

// add adds a number to a coefficient.
func (p table) add(e [api.MaxParams]int, v *big.Rat) {
	if p[e] == nil {
		p[e] = new(big.Rat)
	}
	p[e].Add(p[e], v)
}

// plus returns the sum.
func (p table) plus(q table) table {
	out := table{}
	for _, r := range []table{p, q} {
		for e, v := range r {
			out.add(e, v)
		}
	}
	return out
}

// times returns the product up to MaxDegree.
func (p table) times(q table) table {
	out := table{}
	for e, v := range p {
		for f, w := range q {
			g := [api.MaxParams]int{e[0] + f[0], e[1] + f[1], e[2] + f[2]}
			if g[0]+g[1]+g[2] <= api.MaxDegree {
				out.add(g, new(big.Rat).Mul(v, w))
			}
		}
	}
	return out
}

// at returns the value at numbers.
func (p table) at(point [api.MaxParams]*big.Rat) *big.Rat {
	out := new(big.Rat)
	for e, v := range p {
		value := new(big.Rat).Set(v)
		for i, power := range e {
			for range power {
				value.Mul(value, point[i])
			}
		}
		out.Add(out, value)
	}
	return out
}

// agree compares a result with the coefficients that are expected.
func agree(t *testing.T, what string, got []api.Monomial, want table) {
	t.Helper()
	if !Valid(got) {
		t.Fatalf("%s: not valid: %v", what, got)
	}
	have := tabled(t, got)
	for e, v := range want {
		if v.Sign() == 0 {
			continue
		}
		if have[e] == nil || have[e].Cmp(v) != 0 {
			t.Fatalf("%s: %v: %v, not %v", what, e, have[e], v)
		}
		delete(have, e)
	}
	if len(have) > 0 {
		t.Fatalf("%s: %v besides", what, have)
	}
}

// fraction returns a number, often a small one and sometimes 0.
func fraction(r *rand.Rand) api.Rat {
	num, den := r.Intn(19)-9, r.Intn(6)+1
	if r.Intn(8) == 0 {
		num, den = int(r.Uint64()), int(r.Uint64()>>1)|1
	}
	x, _ := rational.Make(num, den)
	return x
}

// anyPolynomial returns a polynomial up to a degree, some of them with few monomials.
func anyPolynomial(t *testing.T, r *rand.Rand, degree int) []api.Monomial {
	t.Helper()
	gaps := r.Intn(10) + 1
	return slices.DeleteFunc(whole(t), func(m api.Monomial) bool {
		return m.Exps[0]+m.Exps[1]+m.Exps[2] > degree || r.Intn(gaps) > 0
	})
}

// random returns such a polynomial with coefficients of all kinds.
func random(t *testing.T, r *rand.Rand, degree int) []api.Monomial {
	t.Helper()
	p := anyPolynomial(t, r, degree)
	for i := range p {
		for p[i].Coef = fraction(r); rational.Sign(p[i].Coef) == 0; {
			p[i].Coef = fraction(r)
		}
	}
	return p
}

func TestAgainstTheLibrary(t *testing.T) {
	r := rand.New(rand.NewSource(1))
	for range 250 {
		p, q, c := random(t, r, api.MaxDegree), random(t, r, api.MaxDegree), fraction(r)
		if !Valid(p) || !Valid(q) {
			t.Fatalf("not valid: %v %v", p, q)
		}
		a, b := tabled(t, p), tabled(t, q)
		agree(t, "add", Add(p, q), a.plus(b))
		agree(t, "mul", Mul(p, q), a.times(b))
		agree(t, "scale", Scale(p, c), a.times(table{{}: library(t, c)}))
		agree(t, "constant", Constant(c), table{{}: library(t, c)})
		if back, ok := Parse(Format(p)); !ok || !same(back, p) {
			t.Fatalf("%s is read back as %s", Format(p), Format(back))
		}
		point := [api.MaxParams]api.Rat{fraction(r), fraction(r), fraction(r)}
		wide := [api.MaxParams]*big.Rat{library(t, point[0]), library(t, point[1]), library(t, point[2])}
		if got := Eval(p, point); !rational.Valid(got) || library(t, got).Cmp(a.at(wide)) != 0 {
			t.Fatalf("%s: value %s", Format(p), rational.Format(got))
		}
	}
}

func TestStarsAgainstTheLibrary(t *testing.T) {
	r := rand.New(rand.NewSource(2))
	stars := 0
	for range 300 {
		p := random(t, r, api.MaxDegree)
		got, e := Star(p)
		lowest := library(t, Lowest(p))
		if lowest.Abs(lowest).Cmp(big.NewRat(1, 1)) >= 0 {
			if e != api.ErrStar || len(got) != 0 {
				t.Fatalf("%s: %v %v", Format(p), got, e)
			}
			continue
		}
		if e != api.OK {
			t.Fatalf("%s: %v", Format(p), e)
		}
		stars++
		agree(t, Format(p), got, table{{}: big.NewRat(1, 1)}.plus(tabled(t, p).times(tabled(t, got))))
	}
	if stars < 100 {
		t.Errorf("only %d stars", stars)
	}
}

func TestRing(t *testing.T) {
	r := rand.New(rand.NewSource(3))
	unit := Constant(number(t, "1"))
	for range 60 {
		p, q, u := random(t, r, api.MaxDegree), random(t, r, api.MaxDegree), random(t, r, api.MaxDegree)
		if !same(Add(p, q), Add(q, p)) || !same(Mul(p, q), Mul(q, p)) {
			t.Fatalf("%s, %s do not commute", Format(p), Format(q))
		}
		if !same(Add(Add(p, q), u), Add(p, Add(q, u))) || !same(Mul(Mul(p, q), u), Mul(p, Mul(q, u))) {
			t.Fatalf("%s, %s, %s are not associative", Format(p), Format(q), Format(u))
		}
		if !same(Mul(p, Add(q, u)), Add(Mul(p, q), Mul(p, u))) {
			t.Fatalf("%s does not distribute over %s, %s", Format(p), Format(q), Format(u))
		}
		if !same(Add(p, nil), p) || !same(Mul(p, unit), p) || len(Mul(p, nil)) != 0 || len(Add(p, Scale(p, number(t, "-1")))) != 0 {
			t.Fatalf("%s: neutral elements", Format(p))
		}
	}
}

func TestEvalOfSumsAndProducts(t *testing.T) {
	r := rand.New(rand.NewSource(4))
	for round := range 120 {
		degree := round % (api.MaxDegree + 1)
		p, q := random(t, r, degree), random(t, r, api.MaxDegree-degree)
		at := [api.MaxParams]api.Rat{fraction(r), fraction(r), fraction(r)}
		x, y := Eval(p, at), Eval(q, at)
		if !sameNumber(Eval(Add(p, q), at), rational.Add(x, y)) || !sameNumber(Eval(Mul(p, q), at), rational.Mul(x, y)) {
			t.Fatalf("%s, %s at %v", Format(p), Format(q), at)
		}
	}
}
