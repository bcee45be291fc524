package modeltext

import (
	"iter"
	"strconv"

	"weighted/api"
	"weighted/semiring"
	"weighted/symbols"
)

// lines yields the words of each line of a valid automaton.
func lines(a api.Auto, table []string) iter.Seq[[]string] {
	return func(yield func([]string) bool) {
		_ = yield(ringLine(a.Ring)) &&
			yield(append([]string{"symbols"}, table...)) &&
			yield([]string{"states", strconv.Itoa(a.States)}) &&
			yieldEnds(yield, "initial", a.Ring, a.Initial) &&
			yieldEnds(yield, "final", a.Ring, a.Final) &&
			yieldArcs(yield, a, table)
	}
}

// ringLine returns the words of the line of a semiring.
func ringLine(r api.Ring) []string {
	line := []string{"ring", kinds[r.Kind]}
	for _, k := range r.Parts {
		line = append(line, kinds[k])
	}
	return line
}

// yieldEnds yields the words of the lines of initial or final weights, and reports whether more lines are wanted.
func yieldEnds(yield func([]string) bool, name string, r api.Ring, weights []api.Weight) bool {
	zero := semiring.Zero(r)
	for state, w := range weights {
		if semiring.Equal(w, zero) {
			continue
		}
		if !yield([]string{name, strconv.Itoa(state), semiring.Format(r, w)}) {
			return false
		}
	}
	return true
}

// yieldArcs does the same with the arcs.
func yieldArcs(yield func([]string) bool, a api.Auto, table []string) bool {
	for _, x := range a.Arcs {
		line := []string{"arc", strconv.Itoa(x.From), symbols.Name(table, x.Label), strconv.Itoa(x.To), semiring.Format(a.Ring, x.Weight)}
		if !yield(line) {
			return false
		}
	}
	return true
}
