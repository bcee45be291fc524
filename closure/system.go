package closure

import (
	"weighted/api"
	"weighted/semiring"
)

// system is the system of equations s = 1 + m s, half solved. Row k of s is the star of the loop at k, times the sum of what is known (the unit of column k, and the units of the columns before k times the weights of line k) and of the rows of s behind k times the weights of line k.
type system struct {
	ring  api.Ring
	lines []line
	loops []api.Weight
}

// eliminate puts the equation of each row into all those behind it. It returns false if the weight that is then in row k and column k has no star for some k.
func eliminate(r api.Ring, m [][]api.Weight) (s system, ok bool) {
	s = system{ring: r, lines: linesOf(r, m)}
	for k, l := range s.lines {
		loop, err := semiring.Star(r, l.weight(k))
		if err != api.OK {
			return system{}, false
		}
		s.loops = append(s.loops, loop)
		for i := k + 1; i < len(m); i++ {
			s.replace(i, k)
		}
	}
	return s, true
}

// replace puts the equation of row k into that of row i.
func (s system) replace(i, k int) {
	factor := semiring.Times(s.ring, s.lines[i].weight(k), s.loops[k])
	if isZero(s.ring, factor) {
		return
	}
	s.lines[i] = total(s.ring, []api.Weight{semiring.One(s.ring), factor}, []line{s.lines[i], s.lines[k]})
}

// solve returns the rows of s, which it finds from the last one to the first one.
func (s system) solve() []line {
	out := make([]line, len(s.lines))
	for k := len(out) - 1; k >= 0; k-- {
		factors, rows := []api.Weight{s.loops[k]}, []line{s.known(k)}
		for i := k + 1; i < len(out); i++ {
			factors = append(factors, semiring.Times(s.ring, s.loops[k], s.lines[k].weight(i)))
			rows = append(rows, out[i])
		}
		out[k] = total(s.ring, factors, rows)
	}
	return out
}

// known returns what is known in the equation of row k.
func (s system) known(k int) line {
	weights := make([]api.Weight, len(s.lines))
	for j := range k {
		weights[j] = s.lines[k].weight(j)
	}
	weights[k] = semiring.One(s.ring)
	return newLine(s.ring, weights, one())
}
