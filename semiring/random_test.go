package semiring

import (
	"math/rand"
	"slices"
	"testing"
	"unsafe"

	"weighted/api"
	"weighted/polynomial"
	"weighted/rational"
)

// duplicate returns w in new memory, with what stands behind the ends of its slices.
func duplicate(w api.Weight) api.Weight {
	number := func(x api.Rat) api.Rat {
		x.Num = slices.Clone(x.Num[:cap(x.Num)])[:len(x.Num)]
		x.Den = slices.Clone(x.Den[:cap(x.Den)])[:len(x.Den)]
		return x
	}
	w.Q = number(w.Q)
	size := len(w.Poly)
	w.Poly = slices.Clone(w.Poly[:cap(w.Poly)])
	for i := range w.Poly {
		w.Poly[i].Coef = number(w.Poly[i].Coef)
	}
	w.Poly = w.Poly[:size]
	size = len(w.Parts)
	w.Parts = slices.Clone(w.Parts[:cap(w.Parts)])
	for i := range w.Parts {
		w.Parts[i] = duplicate(w.Parts[i])
	}
	w.Parts = w.Parts[:size]
	return w
}

// spread returns w in new memory, with room behind the ends of its slices that is filled.
func spread(w api.Weight) api.Weight {
	number := func(x api.Rat) api.Rat {
		x.Num = append(slices.Clone(x.Num), 9, 0)[:len(x.Num)]
		x.Den = append(slices.Clone(x.Den), 9, 0)[:len(x.Den)]
		return x
	}
	w.Q = number(w.Q)
	w.Poly = append(slices.Clone(w.Poly), api.Monomial{Exps: [api.MaxParams]int{9}})[:len(w.Poly)]
	for i := range w.Poly {
		w.Poly[i].Coef = number(w.Poly[i].Coef)
	}
	w.Parts = append(slices.Clone(w.Parts), api.Weight{Cost: -9})[:len(w.Parts)]
	for i := range w.Parts {
		w.Parts[i] = spread(w.Parts[i])
	}
	return w
}

// exact reports whether two weights have the same fields, also behind the ends of their slices.
func exact(v, w api.Weight) bool {
	number := func(x, y api.Rat) bool {
		return x.Neg == y.Neg && len(x.Num) == len(y.Num) && len(x.Den) == len(y.Den) &&
			slices.Equal(x.Num[:cap(x.Num)], y.Num[:cap(x.Num)]) && slices.Equal(x.Den[:cap(x.Den)], y.Den[:cap(x.Den)])
	}
	monomial := func(m, n api.Monomial) bool { return m.Exps == n.Exps && number(m.Coef, n.Coef) }
	return number(v.Q, w.Q) && v.Cost == w.Cost && v.Inf == w.Inf && v.Set == w.Set &&
		len(v.Poly) == len(w.Poly) && slices.EqualFunc(v.Poly[:cap(v.Poly)], w.Poly[:cap(v.Poly)], monomial) &&
		len(v.Parts) == len(w.Parts) && slices.EqualFunc(v.Parts[:cap(v.Parts)], w.Parts[:cap(v.Parts)], exact)
}

// block is a range of addresses.
type block struct {
	start, end uintptr
}

// blocks returns the memory of all slices of a weight.
func blocks(w api.Weight) []block {
	out := append(limbs(w.Q.Num), limbs(w.Q.Den)...)
	if cap(w.Poly) > 0 {
		start := uintptr(unsafe.Pointer(unsafe.SliceData(w.Poly)))
		out = append(out, block{start, start + uintptr(cap(w.Poly))*unsafe.Sizeof(w.Poly[:1][0])})
	}
	for _, m := range w.Poly {
		out = append(append(out, limbs(m.Coef.Num)...), limbs(m.Coef.Den)...)
	}
	if cap(w.Parts) > 0 {
		start := uintptr(unsafe.Pointer(unsafe.SliceData(w.Parts)))
		out = append(out, block{start, start + uintptr(cap(w.Parts))*unsafe.Sizeof(w)})
	}
	for _, part := range w.Parts {
		out = append(out, blocks(part)...)
	}
	return out
}

// limbs returns the memory of limbs.
func limbs(x []uint32) []block {
	if cap(x) == 0 {
		return nil
	}
	start := uintptr(unsafe.Pointer(unsafe.SliceData(x)))
	return []block{{start, start + 4*uintptr(cap(x))}}
}

// apart reports whether no two slices of these weights share memory.
func apart(all ...api.Weight) bool {
	var found []block
	for _, w := range all {
		found = append(found, blocks(w)...)
	}
	slices.SortFunc(found, func(a, b block) int {
		if a.start < b.start {
			return -1
		}
		return 1
	})
	for i := 1; i < len(found); i++ {
		if found[i].start < found[i-1].end {
			return false
		}
	}
	return true
}

// randomWeight returns a weight of r, often Zero or One.
func randomWeight(rnd *rand.Rand, r api.Ring) api.Weight {
	if r.Kind != api.Product && rnd.Intn(8) == 0 {
		return Zero(r)
	}
	if r.Kind != api.Product && rnd.Intn(8) == 0 {
		return One(r)
	}
	small := func() api.Rat {
		x, _ := rational.Make(rnd.Intn(13)-6, 1+rnd.Intn(6))
		return x
	}
	switch r.Kind {
	case api.Rational:
		return api.Weight{Q: small()}
	case api.Tropical:
		if rnd.Intn(3) == 0 {
			return api.Weight{Cost: api.MaxCost - rnd.Intn(9)}
		}
		return api.Weight{Cost: rnd.Intn(20)}
	case api.Viterbi:
		den := 1 + rnd.Intn(9)
		x, _ := rational.Make(rnd.Intn(den+1), den)
		return api.Weight{Q: x}
	case api.Sets:
		return api.Weight{Set: rnd.Uint64()}
	case api.Polynomial:
		p := polynomial.Constant(small())
		for range rnd.Intn(4) {
			p = polynomial.Add(polynomial.Scale(p, small()), polynomial.Mul(p, polynomial.Parameter(rnd.Intn(api.MaxParams))))
		}
		return api.Weight{Poly: p}
	}
	var w api.Weight
	for _, kind := range r.Parts {
		w.Parts = append(w.Parts, randomWeight(rnd, api.Ring{Kind: kind}))
	}
	return w
}

func TestLaws(t *testing.T) {
	rnd := rand.New(rand.NewSource(1))
	for _, r := range rings() {
		for range 25 {
			u, v, w := randomWeight(rnd, r), randomWeight(rnd, r), randomWeight(rnd, r)
			zero, one := Zero(r), One(r)
			plus := func(v, w api.Weight) api.Weight { return Plus(r, v, w) }
			times := func(v, w api.Weight) api.Weight { return Times(r, v, w) }
			for law, pair := range map[string][2]api.Weight{
				"plus commutes":       {plus(v, w), plus(w, v)},
				"plus is associative": {plus(plus(u, v), w), plus(u, plus(v, w))},
				"plus Zero":           {plus(w, zero), w},
				"times commutes":      {times(v, w), times(w, v)},
				"times associative":   {times(times(u, v), w), times(u, times(v, w))},
				"times One":           {times(w, one), w},
				"times Zero":          {times(w, zero), zero},
				"times distributes":   {times(u, plus(v, w)), plus(times(u, v), times(u, w))},
			} {
				if !Equal(pair[0], pair[1]) || !Check(r, pair[0]) {
					t.Fatalf("%v: %s: %v, %v, %v", r, law, u, v, w)
				}
			}
			if r.Kind >= api.Tropical && r.Kind <= api.Sets && !Equal(plus(w, w), w) {
				t.Fatalf("%v: plus is not idempotent: %v", r, w)
			}
			if s, e := Star(r, w); e == api.OK && (!Check(r, s) || !Equal(s, plus(one, times(w, s)))) {
				t.Fatalf("%v: star of %v is %v", r, w, s)
			}
			if s := Format(r, w); !Equal(read(t, r, s), w) {
				t.Fatalf("%v: %v is written as %s", r, w, s)
			}
			if Better(r, v, w) && (!Equal(plus(v, w), v) || Better(r, w, v) || Equal(v, w)) {
				t.Fatalf("%v: %v is better than %v", r, v, w)
			}
		}
	}
}

func TestProductsArePartByPart(t *testing.T) {
	rnd := rand.New(rand.NewSource(2))
	for _, r := range rings() {
		for range 10 {
			v, w := randomWeight(rnd, r), randomWeight(rnd, r)
			total, product := Plus(r, v, w), Times(r, v, w)
			star, e := Star(r, v)
			want := api.OK
			for i, kind := range r.Parts {
				part := api.Ring{Kind: kind}
				if !Equal(total.Parts[i], Plus(part, v.Parts[i], w.Parts[i])) || !Equal(product.Parts[i], Times(part, v.Parts[i], w.Parts[i])) {
					t.Fatalf("%v: %v and %v: %v, %v", r, v, w, total, product)
				}
				s, failed := Star(part, v.Parts[i])
				if failed != api.OK {
					want = api.ErrStar
				} else if e == api.OK && !Equal(star.Parts[i], s) {
					t.Fatalf("%v: star of %v: %v", r, v, star)
				}
			}
			if len(r.Parts) > 0 && e != want {
				t.Fatalf("%v: star of %v: %v", r, v, e)
			}
		}
	}
}

func TestArgumentsAndMemory(t *testing.T) {
	rnd := rand.New(rand.NewSource(3))
	for _, r := range rings() {
		for round := range 12 {
			v, w := spread(randomWeight(rnd, r)), spread(randomWeight(rnd, r))
			if round%3 == 2 {
				// Field Set makes it a weight of no ring, or of Sets alone.
				w.Set = 7
			}
			ring := api.Ring{Kind: r.Kind, Parts: append(slices.Clone(r.Parts), 99, 99)[:len(r.Parts)]}
			vBefore, wBefore, kinds := duplicate(v), duplicate(w), slices.Clone(ring.Parts[:cap(ring.Parts)])
			star, _ := Star(ring, v)
			text := Format(ring, v)
			parsed, _ := Parse(ring, text)
			results := []api.Weight{v, w, Zero(ring), One(ring), Plus(ring, v, w), Plus(ring, w, v), Times(ring, v, w), Times(ring, w, v), Times(ring, v, One(r)), Plus(ring, v, Zero(r)), star, parsed}
			if !apart(results...) {
				t.Fatalf("%v: %v and %v share memory with a result", r, v, w)
			}
			Check(ring, v)
			Equal(v, w)
			Better(ring, v, w)
			Format(ring, w)
			if !exact(v, vBefore) || !exact(w, wBefore) || !slices.Equal(ring.Parts[:cap(ring.Parts)], kinds) {
				t.Fatalf("%v: an argument has changed: %v, %v", r, v, w)
			}
			if !Equal(parsed, v) || !Check(ring, v) {
				t.Fatalf("%v: what stands behind the end of a slice counts: %v", r, v)
			}
		}
	}
}

func TestParseOfChangedTexts(t *testing.T) {
	rnd := rand.New(rand.NewSource(4))
	const bytes = "0123456789abcdefin+-*/^| AF_."
	for _, r := range rings() {
		for range 60 {
			text := []byte(Format(r, randomWeight(rnd, r)))
			at := rnd.Intn(len(text))
			switch rnd.Intn(3) {
			case 0:
				text[at] = bytes[rnd.Intn(len(bytes))]
			case 1:
				text = slices.Delete(text, at, at+1)
			case 2:
				text = slices.Insert(text, at, bytes[rnd.Intn(len(bytes))])
			}
			w, ok := Parse(r, string(text))
			if !ok && !Equal(w, api.Weight{}) || ok && !Check(r, w) {
				t.Fatalf("%v: %s is read as %v, %v", r, text, w, ok)
			}
			// All but numbers have one text each.
			plain := r.Kind != api.Rational && r.Kind != api.Viterbi && !slices.Contains(r.Parts, api.Rational) && !slices.Contains(r.Parts, api.Viterbi)
			if ok && plain && Format(r, w) != string(text) {
				t.Fatalf("%v: %s is read as %s", r, text, Format(r, w))
			}
		}
	}
}
