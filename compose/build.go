package compose

import "weighted/api"

// built returns the transducer that some states of a composition, in their order, form with the arcs between them, or false if it is too large.
func (c *composition) built(states []state) (api.Trans, bool) {
	out := api.Trans{Ring: c.ring, In: c.m.In, Out: c.n.Out, States: len(states)}
	number := map[state]int{}
	for i, at := range states {
		number[at] = i
		out.Initial = append(out.Initial, c.initial(at))
		out.Final = append(out.Final, c.final(at))
	}
	for i, at := range states {
		for to, s := range c.ahead(at) {
			k, isState := number[to]
			if !isState {
				continue
			}
			for x := range c.arcs(s) {
				if len(out.Arcs) == api.MaxArcs {
					return api.Trans{}, false
				}
				x.From, x.To = i, k
				out.Arcs = append(out.Arcs, x)
			}
		}
	}
	return out, true
}
