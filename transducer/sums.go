package transducer

import (
	"slices"

	"weighted/api"
	"weighted/semiring"
)

// sums returns for each state the weight of all paths with a pair of words as labels from any state to it. The list may be nil if all are Zero. It goes through the pairs of beginnings of the words, row by row: arcs with two empty labels stay at a pair, all others lead to it from one of the three before.
func sums(t api.Trans, silent []api.TArc, in, out []int) []api.Weight {
	labelled, lead := finder(t), leader(t)
	var above, row [][]api.Weight
	for i := range len(in) + 1 {
		above, row = row, nil
		for j := range len(out) + 1 {
			var at []api.Weight
			if i == 0 && j == 0 {
				at = slices.Clone(t.Initial)
			}
			if i > 0 {
				at = lead(labelled(in[i-1], 0), above[j], at)
			}
			if j > 0 {
				at = lead(labelled(0, out[j-1]), row[j-1], at)
			}
			if i > 0 && j > 0 {
				at = lead(labelled(in[i-1], out[j-1]), above[j-1], at)
			}
			row = append(row, lead(silent, at, at))
		}
	}
	return row[len(out)]
}

// finder returns the function that finds the arcs with two labels.
func finder(t api.Trans) func(in, out int) []api.TArc {
	lists := make([][]api.TArc, (t.In+1)*(t.Out+1))
	place := func(in, out int) int { return in*(t.Out+1) + out }
	for _, x := range t.Arcs {
		i := place(x.In, x.Out)
		lists[i] = append(lists[i], x)
	}
	return func(in, out int) []api.TArc { return lists[place(in, out)] }
}

// leader returns the function that adds to the weights of states what arcs lead to them from the weights of states before. These may be the same weights if the arcs are in the order of silent. Weights that nothing is added to stay nil instead of Zero, because words often lead to no state.
func leader(t api.Trans) func(arcs []api.TArc, before, at []api.Weight) []api.Weight {
	zero := semiring.Zero(t.Ring)
	return func(arcs []api.TArc, before, at []api.Weight) []api.Weight {
		if before == nil {
			return at
		}
		for _, x := range arcs {
			if semiring.Equal(before[x.From], zero) {
				continue
			}
			if at == nil {
				at = slices.Repeat([]api.Weight{zero}, t.States)
			}
			at[x.To] = semiring.Plus(t.Ring, at[x.To], semiring.Times(t.Ring, before[x.From], x.Weight))
		}
		return at
	}
}
