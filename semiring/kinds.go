package semiring

import (
	"slices"
	"strconv"
	"strings"

	"weighted/api"
	"weighted/polynomial"
	"weighted/rational"
)

// numbers returns the operations of Rational.
func numbers() operations {
	return operations{
		check: func(w api.Weight) bool { return onlyNumber(w) && rational.Valid(w.Q) },
		// Package rational itself counts a number that is not valid as 0. A second look at long numbers would take about half as long as the operation itself.
		clean:  cleaner(onlyNumber, blankWeight),
		zero:   blankWeight,
		one:    func() api.Weight { return api.Weight{Q: one()} },
		plus:   func(v, w api.Weight) api.Weight { return api.Weight{Q: rational.Add(v.Q, w.Q)} },
		times:  timesNumbers,
		star:   starOfNumber,
		better: unordered,
		format: func(w api.Weight) string { return rational.Format(w.Q) },
		parse: func(s string) (api.Weight, bool) {
			q, ok := rational.Parse(s)
			return api.Weight{Q: q}, ok
		},
	}
}

// costs returns the operations of Tropical.
func costs() operations {
	zero := func() api.Weight { return api.Weight{Inf: true} }
	return operations{
		check:  checkCost,
		clean:  cleaner(checkCost, zero),
		zero:   zero,
		one:    blankWeight,
		plus:   leastCost,
		times:  addCosts,
		star:   func(api.Weight) (api.Weight, bool) { return api.Weight{}, true },
		better: cheaper,
		format: formatCost,
		parse:  parseCost,
	}
}

// chances returns the operations of Viterbi.
func chances() operations {
	unit := func() api.Weight { return api.Weight{Q: one()} }
	return operations{
		check:  checkChance,
		clean:  cleaner(checkChance, blankWeight),
		zero:   blankWeight,
		one:    unit,
		plus:   greatestChance,
		times:  timesNumbers,
		star:   func(api.Weight) (api.Weight, bool) { return unit(), true },
		better: likelier,
		format: func(w api.Weight) string { return rational.Format(w.Q) },
		parse:  parseChance,
	}
}

// sets returns the operations of Sets.
func sets() operations {
	all := func() api.Weight { return api.Weight{Set: ^uint64(0)} }
	return operations{
		check:  checkSet,
		clean:  cleaner(checkSet, blankWeight),
		zero:   blankWeight,
		one:    all,
		plus:   func(v, w api.Weight) api.Weight { return api.Weight{Set: v.Set | w.Set} },
		times:  func(v, w api.Weight) api.Weight { return api.Weight{Set: v.Set & w.Set} },
		star:   func(api.Weight) (api.Weight, bool) { return all(), true },
		better: unordered,
		format: formatSet,
		parse:  parseSet,
	}
}

// polynomials returns the operations of Polynomial.
func polynomials() operations {
	return operations{
		check: func(w api.Weight) bool { return onlyPolynomial(w) && polynomial.Valid(w.Poly) },
		// As for numbers, package polynomial looks at its arguments itself.
		clean: cleaner(onlyPolynomial, blankWeight),
		zero:  blankWeight,
		one:   func() api.Weight { return api.Weight{Poly: polynomial.Constant(one())} },
		plus:  func(v, w api.Weight) api.Weight { return api.Weight{Poly: polynomial.Add(v.Poly, w.Poly)} },
		times: func(v, w api.Weight) api.Weight { return api.Weight{Poly: polynomial.Mul(v.Poly, w.Poly)} },
		star: func(w api.Weight) (api.Weight, bool) {
			p, e := polynomial.Star(w.Poly)
			return api.Weight{Poly: p}, e == api.OK
		},
		better: unordered,
		format: formatPolynomial,
		parse:  parsePolynomial,
	}
}

// blankWeight returns the weight with no field set: Zero of most kinds, and One of Tropical.
func blankWeight() api.Weight {
	return api.Weight{}
}

// one returns the number 1.
func one() api.Rat {
	return api.Rat{Num: []uint32{1}}
}

// onlyNumber reports whether all fields but Q are zero.
func onlyNumber(w api.Weight) bool {
	w.Q = api.Rat{}
	return blank(w)
}

// onlyPolynomial reports whether all fields but Poly are zero.
func onlyPolynomial(w api.Weight) bool {
	w.Poly = nil
	return blank(w)
}

// timesNumbers returns the product for Rational and Viterbi.
func timesNumbers(v, w api.Weight) api.Weight {
	return api.Weight{Q: rational.Mul(v.Q, w.Q)}
}

// starOfNumber returns 1 / (1 - w), if the absolute value of w is less than 1.
func starOfNumber(w api.Weight) (s api.Weight, ok bool) {
	if rational.Compare(rational.Abs(w.Q), one()) >= 0 {
		return api.Weight{}, false
	}
	// The divisor is greater than 0.
	q, _ := rational.Div(one(), rational.Sub(one(), w.Q))
	return api.Weight{Q: q}, true
}

// checkCost reports whether w is a weight of Tropical.
func checkCost(w api.Weight) bool {
	if w.Inf {
		w.Inf = false
		return blank(w)
	}
	cost := w.Cost
	w.Cost = 0
	return blank(w) && cost >= 0 && cost <= api.MaxCost
}

// leastCost returns the smaller cost.
func leastCost(v, w api.Weight) api.Weight {
	if cheaper(w, v) {
		v = w
	}
	return api.Weight{Inf: v.Inf, Cost: v.Cost}
}

// addCosts returns the sum of two costs. It does not wrap around, because both are at most MaxCost.
func addCosts(v, w api.Weight) api.Weight {
	total := v.Cost + w.Cost
	if v.Inf || w.Inf || total > api.MaxCost {
		return api.Weight{Inf: true}
	}
	return api.Weight{Cost: total}
}

// cheaper reports whether v has the smaller cost.
func cheaper(v, w api.Weight) bool {
	return !v.Inf && (w.Inf || v.Cost < w.Cost)
}

// formatCost writes a weight of Tropical.
func formatCost(w api.Weight) string {
	if w.Inf {
		return "inf"
	}
	return strconv.Itoa(w.Cost)
}

// parseCost reads what formatCost writes. Atoi reads more than that.
func parseCost(s string) (w api.Weight, ok bool) {
	if s == "inf" {
		return api.Weight{Inf: true}, true
	}
	cost, err := strconv.Atoi(s)
	w = api.Weight{Cost: cost}
	if err != nil || !checkCost(w) || formatCost(w) != s {
		return api.Weight{}, false
	}
	return w, true
}

// checkChance reports whether w is a weight of Viterbi.
func checkChance(w api.Weight) bool {
	return onlyNumber(w) && rational.Valid(w.Q) && !w.Q.Neg && rational.Compare(w.Q, one()) <= 0
}

// greatestChance returns the greater number.
func greatestChance(v, w api.Weight) api.Weight {
	if likelier(w, v) {
		v = w
	}
	return api.Weight{Q: api.Rat{Num: slices.Clone(v.Q.Num), Den: slices.Clone(v.Q.Den)}}
}

// likelier reports whether v is the greater number.
func likelier(v, w api.Weight) bool {
	return rational.Compare(v.Q, w.Q) > 0
}

// parseChance reads a number from 0 to 1.
func parseChance(s string) (w api.Weight, ok bool) {
	q, ok := rational.Parse(s)
	w = api.Weight{Q: q}
	if !ok || !checkChance(w) {
		return api.Weight{}, false
	}
	return w, true
}

// checkSet reports whether w is a weight of Sets.
func checkSet(w api.Weight) bool {
	w.Set = 0
	return blank(w)
}

// formatSet writes a weight of Sets.
func formatSet(w api.Weight) string {
	const zeros = "0000000000000000"
	digits := strconv.FormatUint(w.Set, 16)
	return zeros[len(digits):] + digits
}

// parseSet reads what formatSet writes. ParseUint reads more than that.
func parseSet(s string) (w api.Weight, ok bool) {
	set, err := strconv.ParseUint(s, 16, 64)
	w = api.Weight{Set: set}
	if err != nil || formatSet(w) != s {
		return api.Weight{}, false
	}
	return w, true
}

// formatPolynomial writes a weight of Polynomial.
func formatPolynomial(w api.Weight) string {
	return strings.ReplaceAll(polynomial.Format(w.Poly), " ", "")
}

// parsePolynomial reads what formatPolynomial writes, one monomial after the other: no limit on the length of a text, such as that of polynomial.Parse, is promised for weights.
func parsePolynomial(s string) (w api.Weight, ok bool) {
	signs := strings.NewReplacer("+", " ", "-", " -")
	for _, text := range strings.Fields(signs.Replace(s)) {
		p, ok := polynomial.Parse(text)
		if !ok {
			return api.Weight{}, false
		}
		w.Poly = append(w.Poly, p...)
	}
	// This has read more than formatPolynomial writes. Monomials that are not in order are no polynomial, and are written as "0".
	if formatPolynomial(w) != s {
		return api.Weight{}, false
	}
	return w, true
}
