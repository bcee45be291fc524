package polynomial

import (
	"slices"
	"strconv"
	"strings"

	"weighted/api"
	"weighted/rational"
)

// names are the names of the parameters, a byte each.
const names = "abc"

// Format writes a polynomial.
func Format(p []api.Monomial) string {
	p = clean(p)
	if len(p) == 0 {
		return "0"
	}
	var text strings.Builder
	for i, m := range p {
		text.WriteString(sign(i == 0, m.Coef.Neg))
		text.WriteString(strings.Join(factors(m), "*"))
	}
	return text.String()
}

// Parse reads a polynomial.
func Parse(s string) (p []api.Monomial, ok bool) {
	if len(s) > api.MaxText {
		return nil, false
	}
	if s == "0" {
		return nil, true
	}
	p, ok = monomials(s)
	// monomials reads more texts than Format writes. Only for a valid polynomial other than 0 can Format write the text again.
	if !ok || Format(p) != s {
		return nil, false
	}
	return p, true
}

// sign returns what stands before a monomial.
func sign(first, negative bool) string {
	switch {
	case first && negative:
		return "-"
	case first:
		return ""
	case negative:
		return " - "
	}
	return " + "
}

// factors returns the texts of the factors of a monomial without its sign.
func factors(m api.Monomial) []string {
	var out []string
	size := rational.Abs(m.Coef)
	if m.Exps == (exponents{}) || rational.Compare(size, one()) != 0 {
		out = append(out, rational.Format(size))
	}
	for i, power := range m.Exps {
		switch {
		case power == 1:
			out = append(out, names[i:i+1])
		case power > 1:
			out = append(out, names[i:i+1]+"^"+strconv.Itoa(power))
		}
	}
	return out
}

// monomials reads a list of monomials that need be neither in order nor in the form of Format.
func monomials(s string) (p []api.Monomial, ok bool) {
	if rest, negative := strings.CutPrefix(s, "-"); negative {
		s = "- " + rest
	} else {
		s = "+ " + s
	}
	for pair := range slices.Chunk(strings.Split(s, " "), 2) {
		if len(pair) < 2 || pair[0] != "+" && pair[0] != "-" {
			return nil, false
		}
		m, ok := monomial(pair[1])
		if !ok {
			return nil, false
		}
		if pair[0] == "-" {
			m.Coef = rational.Neg(m.Coef)
		}
		p = append(p, m)
	}
	return p, true
}

// monomial reads a number, parameters, or a number and parameters.
func monomial(s string) (m api.Monomial, ok bool) {
	m.Coef = one()
	parts := strings.Split(s, "*")
	if number, ok := rational.Parse(parts[0]); ok {
		m.Coef, parts = number, parts[1:]
	}
	for _, part := range parts {
		at, power, ok := parameter(part)
		if !ok {
			return api.Monomial{}, false
		}
		m.Exps[at] = power
	}
	return m, true
}

// parameter reads a parameter with or without an exponent.
func parameter(s string) (at, power int, ok bool) {
	name, digits, hat := strings.Cut(s, "^")
	at = strings.Index(names, name)
	if len(name) != 1 || at < 0 {
		return 0, 0, false
	}
	if !hat {
		return at, 1, true
	}
	power, err := strconv.Atoi(digits)
	return at, power, err == nil
}
