package automaton

import (
	"cmp"

	"weighted/api"
	"weighted/models"
)

// normal returns the normal form of a valid automaton, in new memory.
func normal(a api.Auto) api.Auto {
	return api.Auto{
		Ring:    models.CopyRing(a.Ring),
		Symbols: a.Symbols,
		States:  a.States,
		Initial: models.CopyWeights(a.Initial),
		Final:   models.CopyWeights(a.Final),
		Arcs:    models.Merge(a.Ring, a.Arcs, compareEnds, weightOf),
	}
}

// compareEnds compares arcs in the order of the normal form. It finds those equal that the normal form makes one.
func compareEnds(x, y api.Arc) int {
	return cmp.Or(cmp.Compare(x.From, y.From), cmp.Compare(x.Label, y.Label), cmp.Compare(x.To, y.To))
}

// weightOf returns the place of the weight of an arc.
func weightOf(x *api.Arc) *api.Weight {
	return &x.Weight
}
