package weigh

import (
	"cmp"
	"iter"
	"slices"

	"weighted/api"
	"weighted/models"
	"weighted/semiring"
)

// search looks for the accepting paths of a word in a normal form. ways[i][q] is the number of ways from state q behind i symbols to the end.
type search struct {
	a     api.Auto
	word  []int
	ways  [][]api.Weight
	count api.Rat
}

// newSearch returns the search for the paths of a word, which counts them.
func newSearch(a api.Auto, word []int) search {
	ones := counting(a)
	ways := slices.Collect(stages(turned(ones, word)))
	slices.Reverse(ways)
	return search{a, word, ways, models.Join(ones.Ring, ones.Initial, ways[0]).Q}
}

// counting returns the automaton over the rational numbers with 1 in place of each weight other than Zero, so that its sums are numbers of paths.
func counting(a api.Auto) api.Auto {
	r := api.Ring{Kind: api.Rational}
	ones := api.Auto{
		Ring:    r,
		Symbols: a.Symbols,
		States:  a.States,
		Initial: zeros(r, a.States),
		Final:   zeros(r, a.States),
		Arcs:    slices.Clone(a.Arcs),
	}
	zero := semiring.Zero(a.Ring)
	for i := range a.States {
		if !semiring.Equal(a.Initial[i], zero) {
			ones.Initial[i] = semiring.One(r)
		}
		if !semiring.Equal(a.Final[i], zero) {
			ones.Final[i] = semiring.One(r)
		}
	}
	// No arc of a normal form has the weight Zero.
	for i := range ones.Arcs {
		ones.Arcs[i].Weight = semiring.One(r)
	}
	return ones
}

// leads reports whether there is a way from a state behind so many symbols to the end. Without this look ahead there might be far too many paths that end nowhere.
func (s search) leads(done, state int) bool {
	return len(s.ways[done][state].Q.Num) > 0
}

// paths yields the accepting paths in their order.
func (s search) paths() iter.Seq[api.Path] {
	return func(yield func(api.Path) bool) {
		zero := semiring.Zero(s.a.Ring)
		for start, w := range s.a.Initial {
			if semiring.Equal(w, zero) || !s.leads(0, start) {
				continue
			}
			if !s.follow(api.Path{Start: start, Weight: w}, start, yield) {
				return
			}
		}
	}
}

// follow yields the accepting paths that begin with a path, which leads to a state, and reports whether more are wanted.
func (s search) follow(path api.Path, state int, yield func(api.Path) bool) bool {
	done := len(path.Arcs)
	if done == len(s.word) {
		path.Weight = semiring.Times(s.a.Ring, path.Weight, s.a.Final[state])
		return yield(path)
	}
	for i, x := range leaving(s.a.Arcs, state, s.word[done]) {
		if !s.leads(done+1, x.To) {
			continue
		}
		longer := api.Path{
			Start:  path.Start,
			Arcs:   append(slices.Clone(path.Arcs), i),
			Weight: semiring.Times(s.a.Ring, path.Weight, x.Weight),
		}
		if !s.follow(longer, x.To, yield) {
			return false
		}
	}
	return true
}

// leaving yields the arcs of a normal form that leave a state with a label, and their numbers. They stand side by side.
func leaving(arcs []api.Arc, state, label int) iter.Seq2[int, api.Arc] {
	wanted := api.Arc{From: state, Label: label}
	return func(yield func(int, api.Arc) bool) {
		at, _ := slices.BinarySearchFunc(arcs, wanted, compareStarts)
		for i := at; i < len(arcs) && compareStarts(arcs[i], wanted) == 0; i++ {
			if !yield(i, arcs[i]) {
				return
			}
		}
	}
}

// compareStarts compares arcs by the state that they leave, and then by their label.
func compareStarts(x, y api.Arc) int {
	return cmp.Or(cmp.Compare(x.From, y.From), cmp.Compare(x.Label, y.Label))
}

// first returns so many paths, or all if there are fewer. It asks for none beyond them, because each one takes its time.
func first(most int, paths iter.Seq[api.Path]) []api.Path {
	var out []api.Path
	if most == 0 {
		return nil
	}
	for path := range paths {
		out = append(out, path)
		if len(out) == most {
			break
		}
	}
	return out
}
