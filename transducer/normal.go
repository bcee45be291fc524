package transducer

import (
	"cmp"

	"weighted/api"
	"weighted/models"
	"weighted/semiring"
)

// normal returns the normal form of a valid transducer, in new memory.
func normal(t api.Trans) api.Trans {
	return api.Trans{
		Ring:    models.CopyRing(t.Ring),
		In:      t.In,
		Out:     t.Out,
		States:  t.States,
		Initial: models.CopyWeights(t.Initial),
		Final:   models.CopyWeights(t.Final),
		Arcs:    models.Merge(t.Ring, t.Arcs, compareEnds, weightOf),
	}
}

// compareEnds compares arcs in the order of the normal form. It finds those equal that the normal form makes one.
func compareEnds(x, y api.TArc) int {
	return cmp.Or(cmp.Compare(x.From, y.From), cmp.Compare(x.In, y.In), cmp.Compare(x.Out, y.Out), cmp.Compare(x.To, y.To))
}

// weightOf returns the place of the weight of an arc.
func weightOf(x *api.TArc) *api.Weight {
	return &x.Weight
}

// sameArc reports whether all fields of two arcs are equal.
func sameArc(x, y api.TArc) bool {
	return compareEnds(x, y) == 0 && semiring.Equal(x.Weight, y.Weight)
}
