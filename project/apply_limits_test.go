package project_test

import (
	"slices"
	"testing"

	"weighted/api"
	"weighted/samples"
	"weighted/semiring"
)

// with returns a transducer with more arcs of the weight One, whose ends and labels are numbers "From In Out To".
func with(x api.Trans, arcs ...[4]int) api.Trans {
	x.Arcs = slices.Clone(x.Arcs)
	for _, n := range arcs {
		x.Arcs = append(x.Arcs, api.TArc{From: n[0], In: n[1], Out: n[2], To: n[3], Weight: semiring.One(x.Ring)})
	}
	return x
}

// bare returns a transducer over three and 32 symbols with so many states, of which the first ones are at the start and the first ones at the end.
func bare(r api.Ring, states, starts, ends int) api.Trans {
	x := api.Trans{Ring: r, In: 3, Out: api.MaxSymbols, States: states}
	for i := range states {
		x.Initial, x.Final = append(x.Initial, semiring.Zero(r)), append(x.Final, semiring.Zero(r))
		if i < starts {
			x.Initial[i] = semiring.One(r)
		}
		if i < ends {
			x.Final[i] = semiring.One(r)
		}
	}
	return x
}

// found returns the number of states that a composition finds if no weight is Zero.
func found(x api.Trans, word []int) int {
	type place struct {
		read, at int
		alone    bool
	}
	seen := map[place]bool{}
	var list []place
	add := func(p place) {
		if !seen[p] {
			seen[p] = true
			list = append(list, p)
		}
	}
	for i, w := range x.Initial {
		if !semiring.Equal(w, semiring.Zero(x.Ring)) {
			add(place{0, i, false})
		}
	}
	for i := 0; i < len(list); i++ {
		p := list[i]
		for _, y := range x.Arcs {
			if y.From == p.at && y.In == 0 {
				add(place{p.read, y.To, true})
			} else if y.From == p.at && p.read < len(word) && y.In == word[p.read] {
				add(place{p.read + 1, y.To, false})
			}
		}
	}
	return len(list)
}

// expectSize checks the numbers of states and arcs of an Apply.
func expectSize(t *testing.T, what string, x api.Trans, word []int, states, arcs int) {
	t.Helper()
	if got := applied(t, x, word); got.States != states || len(got.Arcs) != arcs {
		t.Fatalf("%s, %d symbols: %d states and %d arcs, not %d and %d", what, len(word), got.States, len(got.Arcs), states, arcs)
	}
}

// ones returns the word of m symbols 1 and then n symbols 2.
func ones(m, n int) []int {
	return slices.Concat(slices.Repeat([]int{1}, m), slices.Repeat([]int{2}, n))
}

func TestAsManyStatesThatAreFound(t *testing.T) {
	for _, c := range samples.Cases() {
		r := c.Ring(t)
		// From state 0 each symbol leads to as many states as it stands for, so that only the states with 0 are useful.
		fan := func(starts int, sizes ...int) api.Trans {
			x := bare(r, api.MaxStates, starts, 1)
			for i, size := range sizes {
				for to := range size {
					x = with(x, [4]int{0, i + 1, 1, to})
				}
			}
			return x
		}
		for _, v := range []struct {
			x     api.Trans
			word  []int
			count int
		}{
			{fan(64, 64), ones(63, 0), 4096},
			{with(fan(64, 64), [4]int{0, 0, 1, 5}), ones(63, 0), 4160},
			{with(fan(64, 64), [4]int{0, 0, 1, 5}), ones(62, 0), 4095},
			{fan(63, 64), ones(63, 0), 4095},
			// What is reached without a symbol counts once for each symbol that has been read.
			{with(fan(63, 63, 64), [4]int{0, 0, 1, 1}), ones(63, 0), 4096},
			{with(fan(63, 63, 64), [4]int{0, 0, 1, 1}, [4]int{62, 0, 2, 1}), ones(63, 0), 4096},
			{with(fan(63, 63, 64), [4]int{0, 0, 1, 1}), ones(62, 1), 4097},
			{with(fan(64, 63, 64), [4]int{0, 0, 1, 1}), ones(63, 0), 4097},
			{with(fan(62, 63, 64), [4]int{0, 0, 1, 1}), ones(62, 1), 4096},
			{with(fan(63, 63, 64), [4]int{63, 0, 1, 62}), ones(31, 32), 4096},
			{with(fan(63, 63, 64), [4]int{63, 0, 1, 62}), ones(30, 33), 4098},
			{with(fan(64, 63, 64), [4]int{63, 0, 1, 62}), ones(32, 31), 4096},
			{with(fan(64, 63, 64), [4]int{63, 0, 1, 62}), ones(31, 32), 4098},
			{with(fan(63, 63, 64), [4]int{63, 0, 1, 62}, [4]int{62, 0, 1, 61}), ones(63, 0), 4096},
			{with(fan(63, 63, 64), [4]int{63, 0, 1, 62}, [4]int{62, 0, 1, 61}), ones(62, 1), 4098},
		} {
			if n := found(v.x, v.word); n != v.count {
				t.Fatalf("%s: %d states are found, not %d", c.Line, n, v.count)
			}
			if v.count > api.MaxPairs {
				failApply(t, c.Line, v.x, v.word, api.ErrLimit)
			} else {
				expectSize(t, c.Line, v.x, v.word, len(v.word)+1, len(v.word))
			}
		}
	}
}

func TestAsManyStates(t *testing.T) {
	for _, c := range samples.Cases() {
		r := c.Ring(t)
		loop := with(bare(r, 1, 1, 1), [4]int{0, 1, 1, 0}, [4]int{0, 2, 2, 0})
		for n := range api.MaxStates {
			expectSize(t, c.Line, loop, ones(n/2, n-n/2), n+1, n)
		}
		// At the end there is one state more, or two.
		tail := with(bare(r, 3, 1, 3), [4]int{0, 1, 1, 0}, [4]int{0, 2, 1, 1}, [4]int{1, 0, 2, 2}, [4]int{0, 3, 1, 2})
		expectSize(t, c.Line, tail, ones(61, 1), 64, 63)
		failApply(t, c.Line, tail, ones(62, 1), api.ErrLimit)
		expectSize(t, c.Line, tail, append(ones(62, 0), 3), 64, 63)
		// And at the start.
		head := with(bare(r, 2, 2, 1), [4]int{0, 1, 1, 0}, [4]int{1, 1, 1, 0})
		expectSize(t, c.Line, head, ones(62, 0), 64, 63)
		failApply(t, c.Line, head, ones(63, 0), api.ErrLimit)
		// All states at each place of the word.
		for _, n := range [][3]int{{1, 63, 64}, {2, 31, 64}, {4, 15, 64}, {8, 7, 64}, {16, 3, 64}, {32, 1, 64}, {64, 0, 64}, {9, 6, 63}} {
			x := bare(r, n[0], n[0], n[0])
			for i := range n[0] {
				x = with(x, [4]int{i, 1, 1, i})
			}
			expectSize(t, c.Line, x, ones(n[1], 0), n[2], n[0]*n[1])
			failApply(t, c.Line, x, ones(n[1]+1, 0), api.ErrLimit)
		}
		// A cycle without symbols makes two of each.
		x := with(loop, [4]int{0, 0, 3, 0})
		expectSize(t, c.Line, x, ones(31, 0), 64, 4*31+2)
		failApply(t, c.Line, x, ones(32, 0), api.ErrLimit)
		// Many states that are not useful do not count.
		x = with(bare(r, 64, 64, 1), [4]int{0, 1, 1, 0})
		for i := 1; i < 64; i++ {
			x = with(x, [4]int{i, 1, 1, i})
		}
		expectSize(t, c.Line, x, ones(63, 0), 64, 63)
	}
}

func TestAsManyArcs(t *testing.T) {
	for _, c := range samples.Cases() {
		r := c.Ring(t)
		x := bare(r, 1, 1, 1)
		for out := range 33 {
			x = with(x, [4]int{0, 1, out, 0}, [4]int{0, 3, out, 0})
		}
		for out := range 32 {
			x = with(x, [4]int{0, 2, 32 - out, 0})
		}
		expectSize(t, c.Line, x, ones(62, 0), 63, 62*33)
		expectSize(t, c.Line, x, ones(32, 31), 64, 2048)
		expectSize(t, c.Line, x, append(ones(31, 31), 3), 64, 2048)
		failApply(t, c.Line, x, ones(33, 30), api.ErrLimit)
		failApply(t, c.Line, x, append(ones(32, 30), 3), api.ErrLimit)
		failApply(t, c.Line, x, ones(63, 0), api.ErrLimit)
		// All arcs between 32 states, with one output and with two.
		x = bare(r, 32, 32, 32)
		for from := range 32 {
			for to := range 32 {
				x = with(x, [4]int{from, 1, 1, to})
			}
		}
		y := x
		y.Arcs = slices.Repeat(x.Arcs, 2)
		for i := range x.Arcs {
			y.Arcs[i].Out = 2
		}
		expectSize(t, c.Line, x, ones(1, 0), 64, 1024)
		expectSize(t, c.Line, y, ones(1, 0), 64, 2048)
		expectSize(t, c.Line, y, nil, 32, 0)
		// Arcs that read nothing stand twice at each place of the word, and so do those that lead to it.
		for _, n := range [][3]int{{1, 32, 2048}, {1, 33, 0}, {2, 30, 1988}, {2, 31, 0}} {
			x = bare(r, 1, 1, 1)
			for out := range n[0] {
				x = with(x, [4]int{0, 0, out, 0})
			}
			for out := range n[1] {
				x = with(x, [4]int{0, 1, out, 0})
			}
			if n[2] > 0 {
				expectSize(t, c.Line, x, ones(31, 0), 64, n[2])
			} else {
				failApply(t, c.Line, x, ones(31, 0), api.ErrLimit)
			}
		}
	}
}

func TestLargeApply(t *testing.T) {
	for _, c := range samples.Cases() {
		r := c.Ring(t)
		x := samples.SizedTrans(r, api.MaxStates, api.MaxArcs)
		for _, word := range [][]int{nil, {1}, {32}, slices.Repeat([]int{1, 2, 3}, 21)} {
			expectApply(t, c.Line, x, word)
		}
		none := api.Trans{Ring: r, In: api.MaxSymbols, Out: 7}
		want := api.Auto{Ring: r, Symbols: 7}
		for n := range api.MaxStates {
			samples.Expect(t, c.Line, applied(t, none, slices.Repeat([]int{32}, n)), want)
		}
		samples.Expect(t, c.Line, applied(t, parallel(r, 32, 32), []int{1, 1}), api.Auto{Ring: r, Symbols: 32})
	}
}
