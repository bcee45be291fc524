package semiring

import (
	"strings"

	"weighted/api"
)

// operations are what there is to know of a semiring. check, clean and parse take all arguments, the other functions only weights that clean has returned. All results are new memory but that of clean.
type operations struct {
	check       func(w api.Weight) bool
	clean       func(w api.Weight) api.Weight
	zero, one   func() api.Weight
	plus, times func(v, w api.Weight) api.Weight
	star        func(w api.Weight) (s api.Weight, ok bool)
	better      func(v, w api.Weight) bool
	format      func(w api.Weight) string
	parse       func(s string) (w api.Weight, ok bool)
}

// find returns the operations of a semiring, if it is one.
func find(r api.Ring) (o operations, ok bool) {
	if !Valid(r) {
		return operations{}, false
	}
	if r.Kind != api.Product {
		return ofKind(r.Kind), true
	}
	var parts []operations
	for _, kind := range r.Parts {
		parts = append(parts, ofKind(kind))
	}
	return tuples(parts), true
}

// ofKind returns the operations of a kind that may be a part of a Product.
func ofKind(kind int) operations {
	switch kind {
	case api.Tropical:
		return costs()
	case api.Viterbi:
		return chances()
	case api.Sets:
		return sets()
	case api.Polynomial:
		return polynomials()
	}
	return numbers()
}

// tuples returns the operations of the tuples with these parts.
func tuples(parts []operations) operations {
	check := func(w api.Weight) bool { return checkTuple(parts, w) }
	zero := func() api.Weight {
		return build(parts, func(_ int, o operations) api.Weight { return o.zero() })
	}
	return operations{
		check: check,
		clean: cleaner(check, zero),
		zero:  zero,
		one: func() api.Weight {
			return build(parts, func(_ int, o operations) api.Weight { return o.one() })
		},
		plus: func(v, w api.Weight) api.Weight {
			return build(parts, func(i int, o operations) api.Weight { return o.plus(v.Parts[i], w.Parts[i]) })
		},
		times: func(v, w api.Weight) api.Weight {
			return build(parts, func(i int, o operations) api.Weight { return o.times(v.Parts[i], w.Parts[i]) })
		},
		star:   func(w api.Weight) (api.Weight, bool) { return starOfTuple(parts, w) },
		better: unordered,
		format: func(w api.Weight) string { return formatTuple(parts, w) },
		parse:  func(s string) (api.Weight, bool) { return parseTuple(parts, s) },
	}
}

// build returns the tuple of the results of a function for all parts.
func build(parts []operations, element func(i int, o operations) api.Weight) api.Weight {
	out := make([]api.Weight, len(parts))
	for i, o := range parts {
		out[i] = element(i, o)
	}
	return api.Weight{Parts: out}
}

// checkTuple reports whether w has a weight for each part, and nothing else.
func checkTuple(parts []operations, w api.Weight) bool {
	elements := w.Parts
	w.Parts = nil
	if !blank(w) || len(elements) != len(parts) {
		return false
	}
	for i, o := range parts {
		if !o.check(elements[i]) {
			return false
		}
	}
	return true
}

// starOfTuple returns the tuple of the stars, if all of them exist.
func starOfTuple(parts []operations, w api.Weight) (s api.Weight, ok bool) {
	ok = true
	s = build(parts, func(i int, o operations) api.Weight {
		star, exists := o.star(w.Parts[i])
		ok = ok && exists
		return star
	})
	return s, ok
}

// formatTuple writes the parts with bars between them.
func formatTuple(parts []operations, w api.Weight) string {
	texts := make([]string, len(parts))
	for i, o := range parts {
		texts[i] = o.format(w.Parts[i])
	}
	return strings.Join(texts, "|")
}

// parseTuple reads what formatTuple writes. No part writes a bar itself.
func parseTuple(parts []operations, s string) (w api.Weight, ok bool) {
	texts := strings.Split(s, "|")
	if len(texts) != len(parts) {
		return api.Weight{}, false
	}
	for i, o := range parts {
		part, ok := o.parse(texts[i])
		if !ok {
			return api.Weight{}, false
		}
		w.Parts = append(w.Parts, part)
	}
	return w, true
}

// cleaner returns the function that returns a weight that passes check, and Zero in place of all others.
func cleaner(check func(api.Weight) bool, zero func() api.Weight) func(api.Weight) api.Weight {
	return func(w api.Weight) api.Weight {
		if !check(w) {
			return zero()
		}
		return w
	}
}

// unordered is the order of a semiring in which no weight is better than another.
func unordered(_, _ api.Weight) bool {
	return false
}

// blank reports whether all fields are zero.
func blank(w api.Weight) bool {
	return Equal(w, api.Weight{})
}
