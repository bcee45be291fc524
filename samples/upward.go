package samples

import (
	"slices"
	"strconv"

	"weighted/api"
)

// Upward returns a random transducer over one or two symbols, whose arcs with an empty label on one side or on both lead to greater states only, so that they form no cycle.
func (c Case) Upward(t Test, choice func(n int) int, in, out, states int, weights []string) api.Trans {
	t.Helper()
	text := "in " + strconv.Itoa(in) + ";out " + strconv.Itoa(out) + ";states " + strconv.Itoa(states)
	for i := range states {
		if choice(3) > 0 || i == 0 {
			text += ";initial " + strconv.Itoa(i) + " " + weights[choice(len(weights))]
		}
		if choice(3) > 0 || i == states-1 {
			text += ";final " + strconv.Itoa(i) + " " + weights[choice(len(weights))]
		}
	}
	for range 2*states + choice(4*states) {
		from, to, x, y := choice(states), choice(states), choice(2)*(1+choice(in)), choice(2)*(1+choice(out))
		if from >= to {
			x, y = max(x, 1), max(y, 1)
		}
		text += ";arc " + strconv.Itoa(from) + " " + strconv.Itoa(x) + " " + strconv.Itoa(y) + " " + strconv.Itoa(to) + " " + weights[choice(len(weights))]
	}
	return Trans(t, c.Fill(text, 0))
}

// Outputs returns the words that paths of a transducer write when they read a word, wherever they begin and end.
func Outputs(x api.Trans, in []int) [][]int {
	seen := map[string]bool{}
	var out [][]int
	var follow func(state int, in, written []int)
	follow = func(state int, in, written []int) {
		if len(in) == 0 {
			key := ""
			for _, label := range written {
				key += strconv.Itoa(label) + " "
			}
			if !seen[key] {
				seen[key] = true
				out = append(out, slices.Clone(written))
			}
		}
		for _, y := range x.Arcs {
			if y.From != state {
				continue
			}
			next := slices.Clone(written)
			if y.Out > 0 {
				next = append(next, y.Out)
			}
			switch {
			case y.In == 0:
				follow(y.To, in, next)
			case len(in) > 0 && in[0] == y.In:
				follow(y.To, in[1:], next)
			}
		}
	}
	for state := range x.States {
		follow(state, in, nil)
	}
	return out
}
