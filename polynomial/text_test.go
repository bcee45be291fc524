package polynomial

import (
	"strings"
	"testing"

	"weighted/api"
	"weighted/rational"
)

func TestFormat(t *testing.T) {
	for want, p := range map[string][]api.Monomial{
		"0":         nil,
		"1":         {term(t, "1", 0, 0, 0)},
		"-1":        {term(t, "-1", 0, 0, 0)},
		"7/3":       {term(t, "7/3", 0, 0, 0)},
		"-7/3":      {term(t, "-7/3", 0, 0, 0)},
		"a":         {term(t, "1", 1, 0, 0)},
		"-a":        {term(t, "-1", 1, 0, 0)},
		"b":         {term(t, "1", 0, 1, 0)},
		"c^5":       {term(t, "1", 0, 0, 5)},
		"2*a":       {term(t, "2", 1, 0, 0)},
		"-1/2*a":    {term(t, "-1/2", 1, 0, 0)},
		"a*b*c":     {term(t, "1", 1, 1, 1)},
		"a^2*b^2*c": {term(t, "1", 2, 2, 1)},
		"-3/4*a*b^3*c": {
			term(t, "-3/4", 1, 3, 1)},
		"a^2 + 2*a*b + b^2": {
			term(t, "1", 2, 0, 0), term(t, "2", 1, 1, 0), term(t, "1", 0, 2, 0)},
		"-a^2 - b + c - 1": {
			term(t, "-1", 2, 0, 0), term(t, "-1", 0, 1, 0), term(t, "1", 0, 0, 1), term(t, "-1", 0, 0, 0)},
		"a*c^4 - 1/2*a + b^5 - 5/3": {
			term(t, "1", 1, 0, 4), term(t, "-1/2", 1, 0, 0), term(t, "1", 0, 5, 0), term(t, "-5/3", 0, 0, 0)},
		"64*a^5 + 32*a^4 + 16*a^3 + 8*a^2 + 4*a + 2": {
			term(t, "64", 5, 0, 0), term(t, "32", 4, 0, 0), term(t, "16", 3, 0, 0), term(t, "8", 2, 0, 0), term(t, "4", 1, 0, 0), term(t, "2", 0, 0, 0)},
	} {
		if got := Format(p); got != want {
			t.Errorf("%q, not %q", got, want)
		}
		if got, ok := Parse(want); !ok || !same(got, p) {
			t.Errorf("%q is read as %v %v", want, got, ok)
		}
	}
	if got := Format([]api.Monomial{}); got != "0" {
		t.Errorf("the empty list: %q", got)
	}
	if got, ok := Parse("0"); !ok || len(got) != 0 {
		t.Errorf("0 is read as %v %v", got, ok)
	}
}

func TestParseRefuses(t *testing.T) {
	for _, s := range []string{
		"", " ", "+", "-", "*", "^", "--", "- ", " -", " + ", " - ",
		"-0", "+0", "00", "0 + 0", "a + 0", "a - 0", "0 + a", "0*a", "a*0", "0/2", "-0*a", "0 ", " 0",
		"+a", "+ a", "- a", "--a", "+1", "--1", "- 1", "-+a", "+-a",
		"1*a", "-1*a", "b + 1*a", "a*1", "a*2", "2*2", "2*3*a", "2a", "2 a", "2**a", "*a", "a*", "2*", "2*a*", "a**b", "1/2*", "2*-a", "-2*-a",
		"4/6", "4/6*a", "7/1", "7/1*a", "01", "1/02*a", "1/0", "1/-2", "-1/-2", "a/2", "1/2/3", "/2", "1/", "1.5", "1e3", "2/2", "3/3*a",
		"a^0", "a^1", "a^01", "a^02", "a^+2", "a^-1", "a^", "a^^2", "^2", "a^2^2", "a^2.0", "a ^2", "a^ 2", "a^6", "a^7", "a^10", "b^6", "a^9223372036854775807", "a^9223372036854775808", "a^18446744073709551618", "a^-9223372036854775808", "2^2", "2^2*a", "a^b", "a^0*b", "a^0 + b",
		"a^5*b", "a^2*b^2*c^2", "a^3*b^3", "a*b*c^4", "a^-1*b", "a^-1*b^5",
		"a*a", "a*a^2", "a^2*a", "b*a", "c*a", "c*b", "a*b*a", "a^2*b*a",
		"d", "A", "x", "ab", "a*bc", "abc", "a*d", "\u00aa", "a\x00", "a\n", "\ta",
		"a+b", "a +b", "a+ b", "a  + b", "a +  b", " a + b", "a + b ", "a + b +", "a + b + ", "+ a + b", "a - + b", "a + - b", "a + -b", "a - -b", "a + -1/2*b", "a b", "a ++ b", "a * b", "a +\tb", "a\u00a0+ b", "a + + b", "a = b",
		"b + a", "1 + a", "1/2 + a", "c + b", "a + a^2", "b^2 + a*b", "a*c + a*b", "a + a", "a - a", "1 + 1", "1 - 1", "a + b + a", "a + c + b", "2*a*b + a^2 + b^2",
		"(a)", "a + (b)", "a,b", "a;b",
	} {
		if p, ok := Parse(s); ok || len(p) != 0 {
			t.Errorf("%q: %v %v", s, p, ok)
		}
	}
}

func TestDigitsOfCoefficients(t *testing.T) {
	most := strings.Repeat("9", api.MaxDigits)
	for _, s := range []string{most, "-" + most, most + "*a", "1/" + most, "-1/" + most + "*c^2", most + "/2*a + b - 2/" + most, "a - " + most + "/2*b"} {
		p, ok := Parse(s)
		if !ok || Format(p) != s {
			t.Errorf("%.30s: %v", s, ok)
		}
	}
	for _, s := range []string{"9" + most, "-9" + most, "9" + most + "*a", "1/9" + most, "-1/9" + most + "*c^2", "a + 9" + most, "9" + most + "/2*a + b", "9" + most + "/9" + most} {
		if p, ok := Parse(s); ok || len(p) != 0 {
			t.Errorf("%.30s: %d monomials", s, len(p))
		}
	}
	// A polynomial of results may have more digits than Parse reads.
	wide := Mul(read(t, most), read(t, most))
	if s := Format(wide); len(s) != 2*api.MaxDigits {
		t.Errorf("%d digits", len(s))
	} else if _, ok := Parse(s); ok {
		t.Error("more than MaxDigits digits are read")
	}
}

func TestLengthOfTexts(t *testing.T) {
	var p []api.Monomial
	coef := number(t, strings.Repeat("7", 1800))
	for _, m := range whole(t)[:9] {
		p = append(p, api.Monomial{Exps: m.Exps, Coef: coef})
	}
	rest := api.MaxText - len(Format(p)) - len(" + ")
	if rest < 1 || rest > api.MaxDigits-1 {
		t.Fatalf("%d bytes are left", rest)
	}
	for extra, want := range []bool{true, false} {
		s := Format(append(p, api.Monomial{Coef: number(t, strings.Repeat("7", rest+extra))}))
		if len(s) != api.MaxText+extra {
			t.Fatalf("%d bytes", len(s))
		}
		got, ok := Parse(s)
		if ok != want || ok && Format(got) != s || !ok && len(got) != 0 {
			t.Errorf("%d bytes: %v, %d monomials", len(s), ok, len(got))
		}
	}
	for _, s := range []string{strings.Repeat("a", api.MaxText+1), strings.Repeat("a + ", api.MaxText) + "a", strings.Repeat(" ", api.MaxText+1), strings.Repeat("a + ", api.MaxText/4-1) + "a", strings.Repeat("-", api.MaxText), strings.Repeat("*", api.MaxText), strings.Repeat("0", api.MaxText)} {
		if got, ok := Parse(s); ok || len(got) != 0 {
			t.Errorf("%.20q: %d bytes: %d monomials", s, len(s), len(got))
		}
	}
}

func TestTextOfAllMonomials(t *testing.T) {
	for i, m := range whole(t) {
		coef, e := rational.Make(i-20, i+3)
		if e != api.OK {
			t.Fatal(e)
		}
		if m.Coef = coef; rational.Sign(coef) == 0 {
			continue
		}
		p := []api.Monomial{m}
		if got, ok := Parse(Format(p)); !ok || !same(got, p) {
			t.Errorf("%q is read as %v %v", Format(p), got, ok)
		}
	}
	p := whole(t)
	if got, ok := Parse(Format(p)); !ok || !same(got, p) {
		t.Errorf("%q is read as %v %v", Format(p), got, ok)
	}
}
