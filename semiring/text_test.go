package semiring

import (
	"strconv"
	"strings"
	"testing"

	"weighted/api"
	"weighted/polynomial"
	"weighted/rational"
)

func TestFormat(t *testing.T) {
	for _, x := range []struct {
		r    api.Ring
		w    api.Weight
		want string
	}{
		{rationalRing, api.Weight{}, "0"},
		{rationalRing, api.Weight{Q: number(t, "-3/2")}, "-3/2"},
		{tropicalRing, api.Weight{}, "0"},
		{tropicalRing, api.Weight{Cost: 1024}, "1024"},
		{tropicalRing, api.Weight{Cost: api.MaxCost}, "1099511627776"},
		{tropicalRing, api.Weight{Inf: true}, "inf"},
		{viterbiRing, api.Weight{Q: number(t, "2/3")}, "2/3"},
		{viterbiRing, api.Weight{Q: number(t, "1")}, "1"},
		{setsRing, api.Weight{}, "0000000000000000"},
		{setsRing, api.Weight{Set: 0xabc}, "0000000000000abc"},
		{setsRing, api.Weight{Set: 0xfedcba9876543210}, "fedcba9876543210"},
		{polynomialRing, api.Weight{}, "0"},
		{polynomialRing, api.Weight{Poly: []api.Monomial{{Exps: [api.MaxParams]int{2, 0, 1}, Coef: number(t, "-1")}, {Exps: [api.MaxParams]int{0, 1, 0}, Coef: number(t, "-1/2")}, {Coef: number(t, "7")}}}, "-a^2*c-1/2*b+7"},
		{tuple(api.Rational, api.Tropical), api.Weight{Parts: []api.Weight{{Q: number(t, "2")}, {}}}, "2|0"},
		{tuple(api.Tropical, api.Sets, api.Polynomial), api.Weight{Parts: []api.Weight{{Inf: true}, {Set: 1}, {Poly: polynomial.Parameter(1)}}}, "inf|0000000000000001|b"},
	} {
		if got := Format(x.r, x.w); got != x.want {
			t.Errorf("%v: %q, not %q", x.r, got, x.want)
		}
		if w, ok := Parse(x.r, x.want); !ok || !Equal(w, x.w) {
			t.Errorf("%v: %q is read as %v, %v", x.r, x.want, w, ok)
		}
	}
}

func TestParseOfNumbers(t *testing.T) {
	nines := strings.Repeat("9", api.MaxDigits)
	for s, want := range map[string]string{"-0": "0", "4/6": "2/3", "-4/6": "-2/3", "0/7": "0", "6/3": "2", nines + "/" + nines: "1", "-" + nines: "-" + nines} {
		expect(t, s, rationalRing, read(t, rationalRing, s), want)
	}
	for s, want := range map[string]string{"-0": "0", "-0/5": "0", "4/6": "2/3", "7/7": "1", "1": "1", nines + "/" + nines: "1", "1/" + nines: "1/" + nines} {
		expect(t, s, viterbiRing, read(t, viterbiRing, s), want)
	}
}

// refused are texts that Parse does not read for any ring of one kind.
var refused = []string{"", " ", "|", "-", "+", "+1", " 0", "0 ", "1 ", "0x1", "01", "1.0", "1e3", "1_0", "1/0", "0/0", "-inf", "+inf", "Inf", "INF", "infinity", "inf ", "nan", "0|0", "1|", "|1", "\x00", "é", "٣", "1\n", "d", "a +b", "a + b", "a b"}

func TestParseThatFails(t *testing.T) {
	long := strings.Repeat("1", api.MaxDigits+1)
	for _, x := range []struct {
		r     api.Ring
		texts []string
	}{
		{rationalRing, []string{"inf", "a", "0000000000000000", "1/01", "--1", "1/-2", "1//2", "1/2/3", long, "1/" + long}},
		{tropicalRing, []string{"1/2", "-1", "-0", "00", "007", "0000000000000000", "1099511627777", "2199023255552", "10995116277760", "9223372036854775807", "9223372036854775808", "18446744073709551616", "-9223372036854775808", "01099511627776", "i", "in", "a", long}},
		{viterbiRing, []string{"-1", "-1/2", "2", "3/2", "1000000000000000000001/1000000000000000000000", "inf", "a", "0000000000000000", "1/" + long}},
		{setsRing, []string{"0", "f", "inf", "00000000000000F0", "ABCDEF0123456789", "000000000000000", "00000000000000000", "0000000000000001 ", "+000000000000001", "-000000000000001", "0x00000000000001", "000000000000000g", "00000000_0000001", "10000000000000000", "ffffffffffffffff0", "aaaaaaaaaaaaaaaé", "/000000000000000", ":000000000000000", "`000000000000000"}},
		{polynomialRing, []string{"a + b", "a +b", "a+ b", "a+", "a-", "-", "+a", "a++b", "a+-b", "a--b", "--a", "-+a", "a+0", "0+a", "0+0", "-0", "0-0", "b+a", "a+a", "a+a^2", "1*a", "0*a", "a^1", "a^0", "a^6", "a*a", "a*2", "2/4*a", "4/2", "1+a", "1+1", "a+b+", "a\t+b", "inf", "0000000000000000", long + "*a", "a|b"}},
		{tuple(api.Rational, api.Tropical), []string{"1/2", "1/2|", "|7", "1/2|7|", "|1/2|7", "1/2|7|7", "1/2||7", "1/2 |7", "1/2| 7", "7|1/2", "inf|1", "0|-1", "0|01", "x|1", "0,1"}},
		{tuple(api.Tropical, api.Tropical), []string{"1", "1|1|1", "1|x", "x|1", "1|inf|", "inf", "1099511627777|0", "0|1099511627777"}},
		{tuple(api.Sets, api.Polynomial, api.Viterbi), []string{"0000000000000001|a", "0000000000000001|a|1|1", "0000000000000001|a + b|1", "0000000000000001|a|2", "000000000000000A|a|1", "a|0000000000000001|1", "||", "0000000000000001||1"}},
	} {
		texts := x.texts
		for _, s := range refused {
			// Some rings read some of these after all.
			if !(x.r.Kind == api.Product && s == "0|0") {
				texts = append(texts, s)
			}
		}
		for _, s := range texts {
			if w, ok := Parse(x.r, s); ok || !Equal(w, api.Weight{}) {
				t.Errorf("%v: %.60q is read as %s, %v", x.r, s, Format(x.r, w), ok)
			}
		}
	}
}

func TestEveryByteOfASet(t *testing.T) {
	for b := range 256 {
		s := "000000000000000" + string([]byte{byte(b)})
		digit := strings.IndexByte("0123456789abcdef", byte(b))
		w, ok := Parse(setsRing, s)
		if ok != (digit >= 0) || ok && !Equal(w, api.Weight{Set: uint64(digit)}) {
			t.Errorf("%q: %v, %v", s, w, ok)
		}
	}
}

func TestCostsAboutMaxCost(t *testing.T) {
	for cost := api.MaxCost - 2; cost <= api.MaxCost+2; cost++ {
		w, ok := Parse(tropicalRing, strconv.Itoa(cost))
		if ok != (cost <= api.MaxCost) || ok && !Equal(w, api.Weight{Cost: cost}) {
			t.Errorf("%d: %v, %v", cost, w, ok)
		}
		if sum := Times(tropicalRing, api.Weight{Cost: cost - 5}, api.Weight{Cost: 5}); sum.Inf != (cost > api.MaxCost) || !sum.Inf && sum.Cost != cost {
			t.Errorf("%d: %v", cost, sum)
		}
	}
}

func TestPolynomialsOfManyDigits(t *testing.T) {
	// Format writes a space around each sign, so that polynomial.Parse refuses this one because of its length.
	digits := strings.Repeat("7", 1600)
	var terms []string
	for _, name := range []string{"a^2", "a*b", "a*c", "a", "b^2", "b*c", "b", "c^2", "c"} {
		terms = append(terms, digits+"*"+name)
	}
	terms = append(terms, strings.Repeat("7", api.MaxText-len(strings.Join(terms, "+"))-1))
	s := strings.Join(terms, "+")
	if len(s) != api.MaxText {
		t.Fatalf("%d bytes", len(s))
	}
	for _, s := range []string{s, strings.ReplaceAll(s, "+", "-"), s[:len(s)-1], "-" + s, s + "1"} {
		w := read(t, polynomialRing, s)
		if len(w.Poly) != 10 || !Check(polynomialRing, w) || Format(polynomialRing, w) != s {
			t.Errorf("%.20s: %d monomials", s, len(w.Poly))
		}
	}
	if w, ok := Parse(polynomialRing, s+"+1"); ok || !Equal(w, api.Weight{}) {
		t.Error("a second number is read")
	}
	top := strings.Repeat("9", api.MaxDigits)
	for _, s := range []string{top + "*a+b", "a+1/" + top, "-" + top + "*a^5-" + top} {
		if w := read(t, polynomialRing, s); Format(polynomialRing, w) != s {
			t.Errorf("%.20s", s)
		}
	}
	for _, s := range []string{top + "9*a+b", "a+1/" + top + "9", "a+" + top + "9/7"} {
		if _, ok := Parse(polynomialRing, s); ok {
			t.Errorf("%.20s is read", s)
		}
	}
}

func TestFormatOfPolynomialsIsThatWithoutSpaces(t *testing.T) {
	for _, s := range []string{"0", "-a", "a + b - c", "-1/2*a^2*b - 3*a + 7", "a^5 - b^5 + c^5 - 1/3"} {
		p, ok := polynomial.Parse(s)
		if !ok {
			t.Fatal(s)
		}
		short := strings.ReplaceAll(s, " ", "")
		if got := Format(polynomialRing, api.Weight{Poly: p}); got != short {
			t.Errorf("%s: %s", s, got)
		}
		if w, ok := Parse(polynomialRing, short); !ok || !Equal(w, api.Weight{Poly: p}) {
			t.Errorf("%s: %v, %v", s, w, ok)
		}
	}
}

func TestFormatOfNumbersIsThatOfRational(t *testing.T) {
	for _, s := range []string{"0", "1", "1/3", "123456789012345678901234567890/987654321098765432109876543211"} {
		w := api.Weight{Q: number(t, s)}
		if Format(rationalRing, w) != rational.Format(w.Q) || Format(viterbiRing, w) != rational.Format(w.Q) {
			t.Errorf("%s: %s, %s", s, Format(rationalRing, w), Format(viterbiRing, w))
		}
	}
}
