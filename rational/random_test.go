package rational

import (
	"math"
	"math/big"
	"math/rand"
	"slices"
	"testing"

	"weighted/api"
)

// wide returns x as a number of the standard library.
func wide(x []uint32) *big.Int {
	out := new(big.Int)
	for _, v := range slices.Backward(x) {
		out.Or(out.Lsh(out, limbBits), big.NewInt(int64(v)))
	}
	return out
}

// ratio returns x as a fraction of the standard library.
func ratio(x api.Rat) *big.Rat {
	out := new(big.Rat).SetFrac(wide(x.Num), wide(denominator(x)))
	if x.Neg {
		out.Neg(out)
	}
	return out
}

// limbs returns a number of at most n limbs, often with limbs that are extreme.
func limbs(r *rand.Rand, n int) []uint32 {
	out := make([]uint32, r.Intn(n+1))
	for i := range out {
		switch r.Intn(6) {
		case 0:
		case 1:
			out[i] = math.MaxUint32
		case 2:
			out[i] = 1 << 31
		case 3:
			out[i] = uint32(r.Intn(4))
		default:
			out[i] = r.Uint32()
		}
	}
	return trimmed(out)
}

// fractions returns two numbers whose numerators and denominators often have common divisors.
func fractions(r *rand.Rand, n int) (api.Rat, api.Rat) {
	shared := sum(limbs(r, n), one())
	part := func() []uint32 {
		v := limbs(r, n)
		if r.Intn(2) == 0 {
			v = product(v, shared)
		}
		return v
	}
	next := func() api.Rat {
		num, den := part(), part()
		if len(den) == 0 {
			den = one()
		}
		x := new(big.Rat).SetFrac(wide(num), wide(den))
		if r.Intn(2) == 0 {
			x.Neg(x)
		}
		return taken(x)
	}
	return next(), next()
}

// taken returns x with the fields that a valid number has.
func taken(x *big.Rat) api.Rat {
	split := func(v *big.Int) (out []uint32) {
		rest := new(big.Int).Abs(v)
		for rest.Sign() > 0 {
			out = append(out, uint32(rest.Uint64()))
			rest.Rsh(rest, limbBits)
		}
		return out
	}
	out := api.Rat{Neg: x.Sign() < 0, Num: split(x.Num())}
	if !x.IsInt() {
		out.Den = split(x.Denom())
	}
	return out
}

// agree compares a result, field by field, with one of the standard library.
func agree(t *testing.T, what string, got api.Rat, want *big.Rat) {
	t.Helper()
	if !Valid(got) || !same(got, taken(want)) {
		t.Fatalf("%s: %v, not %v", what, got, taken(want))
	}
}

func TestAgainstTheLibrary(t *testing.T) {
	r := rand.New(rand.NewSource(1))
	for round := range 6000 {
		n := 1 + round%6
		if round%100 == 0 {
			n = 60
		}
		x, y := fractions(r, n)
		a, b := ratio(x), ratio(y)
		if !Valid(x) || !Valid(y) {
			t.Fatalf("not valid: %v %v", x, y)
		}
		agree(t, "add", Add(x, y), new(big.Rat).Add(a, b))
		agree(t, "sub", Sub(x, y), new(big.Rat).Sub(a, b))
		agree(t, "mul", Mul(x, y), new(big.Rat).Mul(a, b))
		agree(t, "neg", Neg(x), new(big.Rat).Neg(a))
		agree(t, "abs", Abs(x), new(big.Rat).Abs(a))
		if d, e := Div(x, y); b.Sign() != 0 {
			agree(t, "div", d, new(big.Rat).Quo(a, b))
		} else if e != api.ErrZero {
			t.Fatalf("by 0: %v %v", d, e)
		}
		if Compare(x, y) != a.Cmp(b) || Compare(y, x) != b.Cmp(a) || Compare(x, x) != 0 || Sign(x) != a.Sign() {
			t.Fatalf("%v, %v: %d", x, y, Compare(x, y))
		}
		if Format(x) != a.RatString() {
			t.Fatalf("%v: %s", x, Format(x))
		}
		if back, ok := Parse(Format(x)); n < 60 && (!ok || !same(back, x)) {
			t.Fatalf("%v is read back as %v", x, back)
		}
		rounding(t, r, x, a)
	}
}

// rounding compares Down and Up with divisions of the standard library.
func rounding(t *testing.T, r *rand.Rand, x api.Rat, a *big.Rat) {
	t.Helper()
	bits := r.Intn(257)
	scale := new(big.Int).Lsh(big.NewInt(1), uint(bits))
	// Euclidean division by a positive number rounds down.
	below := new(big.Int).Div(new(big.Int).Mul(a.Num(), scale), a.Denom())
	above := new(big.Int).Div(new(big.Int).Mul(new(big.Int).Neg(a.Num()), scale), a.Denom())
	agree(t, "down", Down(x, bits), new(big.Rat).SetFrac(below, scale))
	agree(t, "up", Up(x, bits), new(big.Rat).SetFrac(above.Neg(above), scale))
}

func TestDivision(t *testing.T) {
	r := rand.New(rand.NewSource(2))
	pairs := [][2][]uint32{
		// A guess that has to be lowered, and guesses after which the divisor is added back.
		{{0, 0, 1 << 31, 1<<31 - 1}, {1, 0, 1 << 31}},
		{{0, math.MaxUint32 - 1, 1 << 31}, {math.MaxUint32, 1 << 31}},
		{{3, 0, 1 << 31}, {1, 0, 1 << 29}},
		{{0, 0, 0, 1 << 31, 1<<31 - 1}, {1, 0, 0, 1 << 31}},
		{{math.MaxUint32, math.MaxUint32, math.MaxUint32}, {math.MaxUint32, math.MaxUint32}},
		{{0, 0, 0, 1}, {math.MaxUint32, math.MaxUint32}},
	}
	for range 20000 {
		pairs = append(pairs, [2][]uint32{limbs(r, 9), sum(limbs(r, 5), one())})
	}
	for _, p := range pairs {
		quotient, remainder := divide(p[0], p[1])
		q, m := new(big.Int).QuoRem(wide(p[0]), wide(p[1]), new(big.Int))
		if wide(quotient).Cmp(q) != 0 || wide(remainder).Cmp(m) != 0 || padded(quotient) || padded(remainder) {
			t.Fatalf("%v by %v: %v, %v", p[0], p[1], quotient, remainder)
		}
	}
}

func TestDivisor(t *testing.T) {
	r := rand.New(rand.NewSource(3))
	for round := range 12000 {
		n := 1 + round%12
		common := sum(limbs(r, n), one())
		x, y := product(common, limbs(r, n)), product(common, limbs(r, n))
		if round%5 == 0 {
			x, y = fibonacci(round%900), fibonacci(round%900+1)
		}
		if len(x) == 0 && len(y) == 0 {
			continue
		}
		want := new(big.Int).GCD(nil, nil, wide(x), wide(y))
		if got := divisor(x, y); wide(got).Cmp(want) != 0 || padded(got) {
			t.Fatalf("%v, %v: %v", x, y, got)
		}
		if coprime(x, y) != (want.Cmp(big.NewInt(1)) == 0) {
			t.Fatalf("%v, %v: coprime %v", x, y, coprime(x, y))
		}
	}
}

// fibonacci returns a number of the series in which Euclid's algorithm takes the most steps.
func fibonacci(n int) []uint32 {
	x, y := []uint32(nil), one()
	for range n {
		x, y = y, sum(x, y)
	}
	return x
}

func TestField(t *testing.T) {
	r := rand.New(rand.NewSource(4))
	for range 500 {
		x, y := fractions(r, 3)
		z, _ := fractions(r, 2)
		if !same(Add(x, y), Add(y, x)) || !same(Mul(x, y), Mul(y, x)) {
			t.Fatalf("%v, %v do not commute", x, y)
		}
		if !same(Add(Add(x, y), z), Add(x, Add(y, z))) || !same(Mul(Mul(x, y), z), Mul(x, Mul(y, z))) {
			t.Fatalf("%v, %v, %v are not associative", x, y, z)
		}
		if !same(Mul(x, Add(y, z)), Add(Mul(x, y), Mul(x, z))) {
			t.Fatalf("%v does not distribute over %v, %v", x, y, z)
		}
		if !same(Sub(Add(x, y), y), x) || !same(Add(x, Neg(x)), api.Rat{}) {
			t.Fatalf("%v, %v: no inverse", x, y)
		}
		if d, e := Div(x, y); e == api.OK && !same(Mul(d, y), x) {
			t.Fatalf("%v by %v: %v", x, y, d)
		}
		if Compare(x, y) <= 0 && Compare(Add(x, z), Add(y, z)) > 0 {
			t.Fatalf("%v, %v, %v: the order", x, y, z)
		}
	}
}
