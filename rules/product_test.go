package rules

import (
	"math"
	"slices"
	"testing"

	"weighted/api"
	"weighted/epsilon"
	"weighted/product"
)

func TestProduct(t *testing.T) {
	var before api.Auto
	for _, text := range texts() {
		a, table := parsed(t, text)
		weights := weightsOf(a)
		b := behind(a, table, weights[1], [][2]int{{0, 1}, {1, 2}, {0, 0}})
		// Without empty labels there are products and quotients.
		c, e := epsilon.Remove(b)
		if e != api.OK {
			c = a
			c.Arcs = slices.DeleteFunc(slices.Clone(a.Arcs), func(x api.Arc) bool { return x.Label == 0 })
		}
		// Equal arcs in another order.
		d := c
		d.Arcs = append(slices.Clone(c.Arcs), c.Arcs...)
		slices.Reverse(d.Arcs)
		wrong := c
		wrong.Initial = append(slices.Clone(c.Initial), api.Weight{})
		wide := c
		wide.Symbols++
		// The automaton of the text before has another ring, or other symbols.
		all := []any{a, b, c, d, wrong, wide, before, nil}
		for _, x := range all {
			for _, y := range all {
				obey(t, product.Hadamard, x, y)
			}
			for _, word := range []any{nil, []int{}, []int{1}, []int{2, 1}, []int{1, 1, 1}, []int{0}, []int{99}, slices.Repeat([]int{1}, api.MaxWord+1)} {
				obey(t, product.LeftQuotient, x, word)
				obey(t, product.RightQuotient, x, word)
			}
			for _, symbols := range []any{nil, uint32(1), uint32(2), uint32(math.MaxUint32)} {
				obey(t, product.Restrict, x, symbols)
			}
		}
		before = c
	}
}
