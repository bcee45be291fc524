package samples

import (
	"slices"
	"strconv"

	"weighted/api"
)

// Random returns an automaton with so many states and arcs that a choice of numbers below n makes, some of them with the weight Zero, or with the same ends and label as others. With empty labels, at most six of the arcs have one, of small weights; without, those that there are have the sum Zero.
func (c Case) Random(t Test, choice func(n int) int, states, size int, empty bool) api.Auto {
	t.Helper()
	template := "symbols a b;states " + strconv.Itoa(states)
	weight := func(letter string) string {
		if choice(4) == 0 {
			return " zero"
		}
		return " " + letter + strconv.Itoa(choice(9))
	}
	state := func() string { return " " + strconv.Itoa(choice(states)) }
	for i := range states {
		at := " " + strconv.Itoa(i)
		template += ";initial" + at + weight("w") + ";final" + at + weight("w")
	}
	labels := []string{" a", " b", " -"}
	if !empty {
		labels = labels[:2]
	}
	for i := range size {
		from, to := state(), state()
		if label := labels[choice(len(labels))]; label != " -" {
			template += ";arc" + from + label + to + weight("w")
		} else if i < 6 {
			template += ";arc" + from + label + to + weight("s")
		}
	}
	if states > 0 {
		template += ";gone" + state() + " -" + state() + ";gone" + state() + " a" + state()
	}
	return Model(t, c.Fill(template, 0))
}

// Shuffled returns an automaton with its arcs in another order, which a choice of numbers below n makes.
func Shuffled(choice func(n int) int, a api.Auto) api.Auto {
	a.Arcs = slices.Clone(a.Arcs)
	shuffle(choice, a.Arcs)
	return a
}

// shuffle brings a list into another order.
func shuffle[T any](choice func(n int) int, list []T) {
	for i := range list {
		k := choice(i + 1)
		list[i], list[k] = list[k], list[i]
	}
}
