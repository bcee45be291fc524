package rules

import (
	"slices"
	"testing"

	"weighted/api"
	"weighted/weigh"
)

func TestWeigh(t *testing.T) {
	for _, text := range texts() {
		a, table := parsed(t, text)
		// Some texts have arcs with the empty label, which are an error in the first round only.
		for range 2 {
			for _, word := range [][]int{nil, {1}, {1, len(table)}, {len(table), 1, 1}, {1, len(table) + 1}} {
				obey(t, weigh.Forward, a, word)
				obey(t, weigh.Backward, a, word)
				obey(t, weigh.Weight, a, word)
				for _, most := range []int{-1, 0, 1, api.MaxList} {
					obey(t, weigh.Paths, a, word, most)
				}
			}
			a.Arcs = slices.DeleteFunc(a.Arcs, func(x api.Arc) bool { return x.Label == 0 })
			for i := range a.States {
				for label := range table {
					a.Arcs = append(a.Arcs, api.Arc{From: i, Label: label + 1, To: a.States - 1 - i, Weight: a.Initial[0]})
				}
			}
		}
		obey(t, weigh.Forward, nil, []int{1})
		obey(t, weigh.Paths, nil, nil, 1)
	}
}
