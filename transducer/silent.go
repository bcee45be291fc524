package transducer

import "weighted/api"

// silent returns the arcs with two empty labels of a normal form in an order in which no arc that leads to a state stands behind one that leaves it, or false if there is no such order because these arcs form a cycle.
func silent(t api.Trans) (arcs []api.TArc, ok bool) {
	leaving := make([][]api.TArc, t.States)
	open := make([]int, t.States)
	for _, x := range t.Arcs {
		if x.In == 0 && x.Out == 0 {
			leaving[x.From] = append(leaving[x.From], x)
			open[x.To]++
		}
	}
	// A state follows when all arcs that lead to it stand in the list.
	var order []int
	for state, count := range open {
		if count == 0 {
			order = append(order, state)
		}
	}
	for i := 0; i < len(order); i++ {
		for _, x := range leaving[order[i]] {
			arcs = append(arcs, x)
			open[x.To]--
			if open[x.To] == 0 {
				order = append(order, x.To)
			}
		}
	}
	if len(order) < t.States {
		return nil, false
	}
	return arcs, true
}
