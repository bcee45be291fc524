package compose_test

import (
	"slices"
	"testing"

	"weighted/api"
	"weighted/models"
	"weighted/samples"
	"weighted/semiring"
)

// sized returns a transducer with so many states, all at the start and at the end, and arcs between different pairs of states, all with the labels 1 : 1.
func sized(r api.Ring, states, arcs int) api.Trans {
	one := semiring.One(r)
	x := api.Trans{Ring: r, In: 3, Out: 3, States: states, Initial: slices.Repeat([]api.Weight{one}, states), Final: slices.Repeat([]api.Weight{one}, states)}
	for i := range arcs {
		x.Arcs = append(x.Arcs, api.TArc{From: i % states, In: 1, Out: 1, To: (i/states + i) % states, Weight: one})
	}
	return x
}

// with returns a transducer with more arcs, whose ends and labels are numbers "From In Out To".
func with(x api.Trans, arcs ...[4]int) api.Trans {
	x.Arcs = slices.Clone(x.Arcs)
	for _, n := range arcs {
		x.Arcs = append(x.Arcs, api.TArc{From: n[0], In: n[1], Out: n[2], To: n[3], Weight: semiring.One(x.Ring)})
	}
	return x
}

// expectSize checks the numbers of states and arcs of a composition, and of the one with both turned and exchanged.
func expectSize(t *testing.T, what string, x, y api.Trans, states, arcs int) {
	t.Helper()
	for _, z := range [][2]api.Trans{{x, y}, {samples.Turned(y), samples.Turned(x)}} {
		if out := composed(t, z[0], z[1]); out.States != states || len(out.Arcs) != arcs {
			t.Fatalf("%s: %d states and %d arcs, not %d and %d", what, out.States, len(out.Arcs), states, arcs)
		}
	}
}

// expectBeyond checks that a composition is too large, and the one with both turned and exchanged.
func expectBeyond(t *testing.T, what string, x, y api.Trans) {
	t.Helper()
	fail(t, what, x, y, api.ErrLimit)
	fail(t, what+", turned", samples.Turned(y), samples.Turned(x), api.ErrLimit)
}

func TestAsManyStates(t *testing.T) {
	for _, c := range samples.Cases() {
		r := c.Ring(t)
		for _, n := range [][2]int{{64, 1}, {32, 2}, {16, 4}, {8, 8}, {5, 12}, {7, 9}} {
			expectSize(t, c.Line, sized(r, n[0], 0), sized(r, n[1], 0), n[0]*n[1], 0)
		}
		for _, n := range [][2]int{{13, 5}, {33, 2}, {11, 6}, {64, 2}, {64, 64}} {
			expectBeyond(t, c.Line, sized(r, n[0], 0), sized(r, n[1], 0))
		}
		// A loop with an empty label doubles the states, one on each side makes them three times as many.
		loop, back := [4]int{0, 1, 0, 0}, [4]int{0, 0, 1, 0}
		expectSize(t, c.Line, with(sized(r, 1, 0), loop), sized(r, 32, 0), 64, 64)
		expectBeyond(t, c.Line, with(sized(r, 1, 0), loop), sized(r, 33, 0))
		expectSize(t, c.Line, with(sized(r, 63, 0), loop), sized(r, 1, 0), 64, 2)
		expectBeyond(t, c.Line, with(sized(r, 64, 0), loop), sized(r, 1, 0))
		expectSize(t, c.Line, with(sized(r, 1, 0), loop), with(sized(r, 1, 0), back), 3, 5)
		// n states that go on alone make n others, and one for each of m.
		expectSize(t, c.Line, with(sized(r, 1, 0), loop), with(sized(r, 31, 0), back), 63, 65)
		expectBeyond(t, c.Line, with(sized(r, 1, 0), loop), with(sized(r, 32, 0), back))
		expectSize(t, c.Line, with(sized(r, 1, 0), loop), with(sized(r, 31, 0), back, [4]int{0, 0, 1, 1}), 64, 68)
		expectBeyond(t, c.Line, with(sized(r, 1, 0), loop), with(sized(r, 31, 0), back, [4]int{0, 0, 1, 1}, [4]int{0, 0, 1, 2}))
	}
}

// board returns two transducers, of which the first one goes up its states with the symbol 1 and the second one with 2, while the other one stays, so that all pairs of states are found. They end in a state each.
func board(r api.Ring, states, first, second int) (api.Trans, api.Trans) {
	x := sized(r, states, 0)
	zero, one := semiring.Zero(r), semiring.One(r)
	x.Initial, x.Final = slices.Repeat([]api.Weight{zero}, states), slices.Repeat([]api.Weight{zero}, states)
	x.Initial[0] = one
	for i := range states {
		if i+1 < states {
			x = with(x, [4]int{i, 1, 1, i + 1})
		}
		x = with(x, [4]int{i, 2, 2, i})
	}
	y := x
	y.Arcs = slices.Clone(x.Arcs)
	for i := range y.Arcs {
		y.Arcs[i].In = 3 - y.Arcs[i].In
	}
	x.Final, y.Final = slices.Clone(x.Final), slices.Clone(y.Final)
	x.Final[first], y.Final[second] = one, one
	return x, y
}

func TestFewUsefulStatesOfManyThatAreFound(t *testing.T) {
	for i, c := range samples.Cases() {
		r := c.Ring(t)
		for k, n := range [][2]int{{7, 7}, {0, 0}, {63, 0}, {0, 63}, {15, 3}, {20, 2}} {
			if (i+k)%4 > 0 {
				continue
			}
			x, y := board(r, 64, n[0], n[1])
			m, k := n[0]+1, n[1]+1
			expectSize(t, c.Line, x, y, m*k, (m-1)*k+m*(k-1))
		}
		for k, n := range [][2]int{{12, 4}, {4, 12}, {32, 1}, {63, 63}, {8, 7}} {
			if (i+k)%4 > 0 {
				continue
			}
			x, y := board(r, 64, n[0], n[1])
			expectBeyond(t, c.Line, x, y)
		}
		if i%3 == 0 {
			x, y := board(r, 64, 7, 7)
			if found, out := expectLiteral(t, c.Line, x, y); found != api.MaxPairs || out.States != api.MaxStates {
				t.Errorf("%s: %d states are found, %d are useful", c.Line, found, out.States)
			}
		}
		// One arc of the second transducer alone finds 64 states more.
		x, y := board(r, 64, 0, 0)
		expectBeyond(t, c.Line, x, with(y, [4]int{63, 0, 1, 63}))
		x, y = board(r, 63, 0, 0)
		expectSize(t, c.Line, x, with(y, [4]int{62, 0, 1, 62}), 1, 0)
	}
}

// nearly returns two transducers of whose states so many are found, which are from 4030 to 4156, and few are useful.
func nearly(r api.Ring, count int) (api.Trans, api.Trans) {
	x, y := sized(r, 64, 0), sized(r, 64, 0)
	x.Initial[62], x.Initial[63] = semiring.Zero(r), semiring.Zero(r)
	x.Final, y.Final = slices.Clone(x.Initial), slices.Clone(x.Initial)
	for i := 2; i < 62; i++ {
		x.Final[i], y.Final[i] = semiring.Zero(r), semiring.Zero(r)
	}
	// From 62 * 64 states at the start, the second transducer finds 62 more alone, and both together as many as are still missing.
	x, y = with(x, [4]int{61, 2, 2, 62}, [4]int{61, 3, 3, 63}), with(y, [4]int{0, 0, 1, 1})
	for i := range count - 62*65 {
		y = with(y, [4]int{1 + i%63, 2 + i/63, 1, 1 + i%63})
	}
	return x, y
}

func TestAsManyStatesThatAreFound(t *testing.T) {
	for i, c := range samples.Cases() {
		for _, count := range []int{4030, 4031, 4095, 4096, 4097, 4098, 4156} {
			x, y := nearly(c.Ring(t), count)
			if i%4 == 0 {
				if found, _ := expectLiteral(t, c.Line, x, y); found != count {
					t.Fatalf("%s: %d states are found, not %d", c.Line, found, count)
				}
			}
			if count > api.MaxPairs {
				expectBeyond(t, c.Line, x, y)
			} else {
				// The states (p, q, 0) with p and q up to 1, and with one of them the states (0, 1, 2) and (1, 1, 2).
				expectSize(t, c.Line, x, y, 6, 2)
			}
		}
	}
}

func TestStatesWithoutWeightAreNotFound(t *testing.T) {
	// Of 64 * 64 states, one has an Initial that is Zero though its factors are not. An arc to it makes them all, and one of a transducer alone finds 64 more.
	x, y := sized(api.Ring{Kind: api.Sets}, 64, 0), sized(api.Ring{Kind: api.Sets}, 64, 0)
	for i := range 64 {
		x.Final[i], y.Final[i] = api.Weight{}, api.Weight{}
	}
	x.Initial[5].Set, y.Initial[9].Set, x.Final[5].Set, y.Final[9].Set = 1, 2, 4, 4
	expectSize(t, "no arcs", x, y, 0, 0)
	expectSize(t, "an arc", with(x, [4]int{6, 1, 1, 5}), with(y, [4]int{8, 1, 1, 9}), 2, 1)
	expectSize(t, "an arc back", with(x, [4]int{5, 1, 1, 5}), with(y, [4]int{9, 1, 1, 8}), 0, 0)
	expectBeyond(t, "an arc alone", with(x, [4]int{6, 1, 0, 6}), y)
	// With an Initial that is Zero in one transducer, 64 * 63 - 1 are at the start, and an arc alone finds 64 others or 63.
	y.Initial[20] = api.Weight{}
	expectSize(t, "fewer", with(y, [4]int{1, 1, 0, 1}), x, 0, 0)
	expectSize(t, "fewer, the other alone", y, with(x, [4]int{1, 0, 1, 1}), 0, 0)
	expectBeyond(t, "two arcs alone", with(y, [4]int{1, 1, 0, 1}), with(x, [4]int{1, 0, 1, 1}))
}

func TestAsManyArcs(t *testing.T) {
	for i, c := range samples.Cases() {
		if i%3 > 0 {
			// These are large, and differ little from ring to ring.
			continue
		}
		r := c.Ring(t)
		loops := func(labels ...[2]int) api.Trans {
			x := sized(r, 1, 0)
			for _, n := range labels {
				x = with(x, [4]int{0, n[0], n[1], 0})
			}
			return x
		}
		expectSize(t, c.Line, sized(r, 64, 2048), loops([2]int{1, 2}), 64, 2048)
		expectSize(t, c.Line, sized(r, 64, 2048), loops([2]int{2, 2}), 64, 0)
		expectSize(t, c.Line, sized(r, 64, 2048), loops(), 64, 0)
		expectSize(t, c.Line, sized(r, 64, 1024), loops([2]int{1, 2}, [2]int{1, 3}), 64, 2048)
		expectBeyond(t, c.Line, sized(r, 64, 1025), loops([2]int{1, 2}, [2]int{1, 3}))
		expectBeyond(t, c.Line, sized(r, 64, 2048), loops([2]int{1, 1}, [2]int{1, 2}, [2]int{1, 0}))
		// One arc more than there may be, and with a label that does not fit again as many.
		expectBeyond(t, c.Line, with(sized(r, 64, 2047), [4]int{63, 1, 2, 40}), loops([2]int{1, 1}, [2]int{2, 1}, [2]int{2, 2}))
		expectSize(t, c.Line, with(sized(r, 64, 2047), [4]int{63, 1, 2, 40}), loops([2]int{1, 1}, [2]int{3, 1}, [2]int{2, 2}), 64, 2048)
		// Arcs with different labels in the middle become one.
		double := sized(r, 64, 1024)
		for _, x := range double.Arcs {
			double = with(double, [4]int{x.From, 1, 2, x.To})
		}
		expectSize(t, c.Line, double, loops([2]int{1, 1}, [2]int{2, 1}), 64, 1024)
		expectSize(t, c.Line, double, loops([2]int{1, 1}, [2]int{2, 1}, [2]int{1, 3}, [2]int{2, 3}), 64, 2048)
		expectBeyond(t, c.Line, double, loops([2]int{1, 1}, [2]int{2, 1}, [2]int{1, 3}, [2]int{2, 2}))
		// Arcs of states that are not useful do not count: the second transducer may go where it never ends.
		lost := with(sized(r, 2, 0), [4]int{0, 1, 1, 0}, [4]int{0, 1, 1, 1}, [4]int{1, 1, 1, 1})
		lost.Initial[1], lost.Final[1] = semiring.Zero(r), semiring.Zero(r)
		expectSize(t, c.Line, sized(r, 64, 2048), lost, 64, 2048)
		// One transducer alone has its arcs twice, from the states of the start and from those that they reach.
		alone := sized(r, 32, 1024)
		for i := range alone.Arcs {
			alone.Arcs[i].Out = 0
		}
		expectSize(t, c.Line, alone, loops([2]int{1, 1}), 64, 2048)
		expectBeyond(t, c.Line, with(alone, [4]int{0, 1, 1, 0}), loops([2]int{1, 1}))
		expectBeyond(t, c.Line, with(alone, [4]int{5, 3, 0, 5}), loops())
		// Full squares.
		expectSize(t, c.Line, sized(r, 8, 64), sized(r, 8, 32), 64, 2048)
		expectBeyond(t, c.Line, sized(r, 8, 64), sized(r, 8, 33))
	}
}

func TestArcsThatCancelDoNotCount(t *testing.T) {
	for _, line := range []string{"ring rational", "ring polynomial"} {
		text := line + ";in 3;out 3;states 1;initial 0 1;final 0 1;arc 0 1 1 0 1;arc 0 2 1 0 -1;arc 0 1 2 0 1"
		y := samples.Trans(t, text)
		x := sized(y.Ring, 64, 1024)
		for _, arc := range x.Arcs {
			x = with(x, [4]int{arc.From, 1, 2, arc.To})
		}
		// The arcs with the output 1 have the sum Zero.
		expectSize(t, line, x, y, 64, 1024)
		y = samples.Trans(t, text+";arc 0 1 3 0 1;arc 0 2 3 0 5")
		expectSize(t, line, x, y, 64, 2048)
		y = samples.Trans(t, text+";arc 0 1 3 0 1;arc 0 2 3 0 -1;arc 0 1 0 0 2;arc 0 2 0 0 1")
		expectSize(t, line, x, y, 64, 2048)
		y = samples.Trans(t, text+";arc 0 1 3 0 1;arc 0 2 3 0 -2;arc 0 1 0 0 2;arc 0 2 0 0 1")
		expectBeyond(t, line, x, y)
	}
}

func TestArcsWithProductZeroDoNotCount(t *testing.T) {
	x, y := sized(api.Ring{Kind: api.Tropical}, 64, 2048), sized(api.Ring{Kind: api.Tropical}, 1, 0)
	for i := range x.Arcs {
		x.Arcs[i].Weight.Cost = i % 2
	}
	y = with(y, [4]int{0, 1, 1, 0}, [4]int{0, 1, 2, 0}, [4]int{0, 1, 3, 0})
	y.Arcs[1].Weight.Cost, y.Arcs[2].Weight.Cost = api.MaxCost, api.MaxCost
	expectBeyond(t, "half of them twice", x, y)
	y.Arcs[0].Weight.Cost = api.MaxCost
	y.Arcs = y.Arcs[:2]
	expectSize(t, "half of them", x, y, 64, 2048)
	y = with(y, [4]int{0, 1, 3, 0})
	expectBeyond(t, "one and a half", x, y)
	y.Arcs[2].Weight.Cost = api.MaxCost
	expectBeyond(t, "half of them three times", x, y)
	for i := range x.Arcs {
		x.Arcs[i].Weight.Cost = 1
	}
	expectSize(t, "none of them", x, y, 64, 0)
}

func TestFarBeyondTheLimits(t *testing.T) {
	for _, c := range samples.Cases()[:2] {
		r := c.Ring(t)
		expectBeyond(t, c.Line, sized(r, 64, 2048), sized(r, 64, 2048))
		x, y := sized(r, 64, 2048), sized(r, 64, 2048)
		for i := range x.Arcs {
			x.Arcs[i].Out, y.Arcs[i].In = i%4, i*7%4
		}
		expectBeyond(t, c.Line+", empty labels", x, y)
	}
}

func TestAllLabels(t *testing.T) {
	for k, c := range samples.Cases() {
		r := c.Ring(t)
		for _, labels := range []int{2, 7, 25, 26, 33} {
			if labels > 7 && k%4 > 0 {
				continue
			}
			x := sized(r, 1, 0)
			x.In, x.Out = api.MaxSymbols, api.MaxSymbols
			for i := range labels * labels {
				x = with(x, [4]int{0, i / labels, i % labels, 0})
			}
			if labels > 25 {
				expectBeyond(t, c.Line, x, x)
				continue
			}
			// Each of the three states has an arc of all labels to the first one, and there are four ways in which a transducer goes on alone. The empty label in the middle counts for the first state only.
			expectSize(t, c.Line, x, x, 3, 3*labels*labels+4*labels)
			terms := slices.Repeat([]api.Weight{semiring.One(r)}, labels)
			all, others := models.Join(r, terms, terms), models.Join(r, terms[1:], terms)
			for _, arc := range composed(t, x, x).Arcs {
				want := terms[0]
				if arc.To == 0 && arc.From == 0 {
					want = all
				} else if arc.To == 0 {
					want = others
				}
				if !semiring.Equal(arc.Weight, want) {
					t.Fatalf("%s, %d labels: an arc from %d to %d has the weight %s", c.Line, labels, arc.From, arc.To, semiring.Format(r, arc.Weight))
				}
			}
		}
	}
}
