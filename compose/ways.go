package compose

import (
	"cmp"
	"slices"

	"weighted/api"
	"weighted/semiring"
)

// way is what leads from one state of a transducer to another, or staying where it is while the other transducer goes on. The arcs of a row have the same label on the outside of the composition, which is their In, and stand in ascending order of the label in the middle, which is their Out.
type way struct {
	ends
	stays bool
	rows  [][]api.TArc
}

// ends are the states that an arc joins.
type ends struct{ from, to int }

// side holds the ways of a transducer by where they lead from, and by where they lead to.
type side struct{ from, to [][]*way }

// newSide returns the ways of a transducer with so many states and arcs in normal form, whose Out is in the middle.
func newSide(r api.Ring, states int, arcs []api.TArc) side {
	out := side{from: make([][]*way, states), to: make([][]*way, states)}
	sorted := slices.Clone(arcs)
	slices.SortFunc(sorted, compareWays)
	for _, list := range split(sorted, sameEnds) {
		out.add(&way{ends: endsOf(list[0]), rows: split(list, sameIn)})
	}
	// Who stays passes an arc without labels and with the weight One.
	none := [][]api.TArc{{{Weight: semiring.One(r)}}}
	for i := range states {
		out.add(&way{ends: ends{i, i}, stays: true, rows: none})
	}
	return out
}

// add adds a way.
func (s side) add(w *way) {
	s.from[w.from] = append(s.from[w.from], w)
	s.to[w.to] = append(s.to[w.to], w)
}

// compareWays compares arcs by their ends, then by their labels on the outside and in the middle.
func compareWays(x, y api.TArc) int {
	return cmp.Or(cmp.Compare(x.From, y.From), cmp.Compare(x.To, y.To), cmp.Compare(x.In, y.In), cmp.Compare(x.Out, y.Out))
}

// endsOf returns the ends of an arc.
func endsOf(x api.TArc) ends {
	return ends{x.From, x.To}
}

// sameEnds reports whether two arcs belong to the same way.
func sameEnds(x, y api.TArc) bool {
	return endsOf(x) == endsOf(y)
}

// sameIn reports whether two arcs of a way belong to the same row.
func sameIn(x, y api.TArc) bool {
	return x.In == y.In
}

// split cuts a list into the longest parts in which all elements are like the first one.
func split[T any](list []T, alike func(x, y T) bool) [][]T {
	var out [][]T
	start := 0
	for i := range list {
		if i+1 == len(list) || !alike(list[start], list[i+1]) {
			out = append(out, list[start:i+1])
			start = i + 1
		}
	}
	return out
}
