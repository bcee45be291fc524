package epsilon_test

import (
	"math/rand"
	"strings"
	"testing"

	"weighted/api"
	"weighted/epsilon"
	"weighted/samples"
	"weighted/semiring"
)

// shownMatrix writes a matrix: the weights of a row have spaces between them, and the rows have semicolons.
func shownMatrix(r api.Ring, m [][]api.Weight) string {
	var out []string
	for _, row := range m {
		var line []string
		for _, w := range row {
			line = append(line, semiring.Format(r, w))
		}
		out = append(out, strings.Join(line, " "))
	}
	return strings.Join(out, "; ")
}

func TestMatrixByHand(t *testing.T) {
	for _, x := range []struct{ text, want string }{
		{"ring rational;symbols a;states 0", ""},
		{"ring rational;symbols a;states 1", "0"},
		{"ring tropical;symbols a;states 2", "inf inf; inf inf"},
		{"ring rational;symbols a;states 2;arc 0 - 1 1/2", "0 1/2; 0 0"},
		{"ring rational;symbols a;states 2;arc 1 - 0 1/2;arc 1 - 1 -3", "0 0; 1/2 -3"},
		{"ring rational;symbols a;states 1;initial 0 5;final 0 7;arc 0 a 0 9", "0"},
		{"ring rational;symbols a b;states 2;arc 0 a 1 4;arc 0 - 1 3;arc 0 b 1 5", "0 3; 0 0"},
		{"ring rational;symbols a;states 2;arc 0 - 1 1/2;arc 1 - 0 2;arc 0 - 1 1/3;arc 0 - 1 1/6", "0 1; 2 0"},
		{"ring rational;symbols a;states 2;arc 0 - 1 1/2;arc 1 - 0 2;arc 0 - 1 -1/2;arc 1 - 1 0", "0 0; 2 0"},
		{"ring rational;symbols a;states 3;arc 0 - 0 1;arc 0 - 1 2;arc 0 - 2 3;arc 1 - 0 4;arc 1 - 1 5;arc 1 - 2 6;arc 2 - 0 7;arc 2 - 1 8;arc 2 - 2 9", "1 2 3; 4 5 6; 7 8 9"},
		{"ring tropical;symbols a;states 2;arc 0 - 1 7;arc 0 - 1 3;arc 1 - 1 inf;arc 1 - 0 0", "inf 3; 0 inf"},
		{"ring viterbi;symbols a;states 2;arc 0 - 1 1/3;arc 0 - 1 1/2;arc 1 - 0 1", "0 1/2; 1 0"},
		{"ring sets;symbols a;states 1;arc 0 - 0 000000000000000f;arc 0 - 0 00000000000000f0", "00000000000000ff"},
		{"ring polynomial;symbols a;states 2;arc 0 - 1 a+1;arc 0 - 1 -1;arc 1 - 0 b^5;arc 1 - 1 c;arc 1 - 1 -c", "0 a; b^5 0"},
		{"ring product rational tropical;symbols a;states 2;arc 0 - 1 1|3;arc 0 - 1 -1|5;arc 1 - 0 1/2|inf;arc 1 - 0 -1/2|inf;arc 1 - 1 0|0", "0|inf 0|3; 0|inf 0|0"},
	} {
		a := samples.Model(t, x.text)
		if got, e := epsilon.Matrix(a); e != api.OK || len(got) != a.States || shownMatrix(a.Ring, got) != x.want {
			t.Errorf("%s: Matrix is %s, %v", x.text, shownMatrix(a.Ring, got), e)
		}
		check(t, a)
	}
}

func TestMatrixOfEachRing(t *testing.T) {
	for _, s := range samples.Cases() {
		for shift := range 3 {
			a := samples.Model(t, s.Fill("symbols a b;states 3;initial 0 w0;final 1 w1;arc 2 - 0 s0;arc 0 a 1 w2;arc 0 - 1 s1;gone 1 - 1;arc 1 - 2 zero;arc 2 - 2 one;arc 2 b 2 w3", shift))
			zero := s.Zero
			want := strings.Join([]string{zero + " " + s.Text("s1", shift) + " " + zero, zero + " " + zero + " " + zero, s.Text("s0", shift) + " " + zero + " " + s.One}, "; ")
			if got, e := epsilon.Matrix(a); e != api.OK || shownMatrix(a.Ring, got) != want {
				t.Errorf("%s: Matrix of %s is %s, %v, not %s", s.Line, samples.Shown(a), shownMatrix(a.Ring, got), e, want)
			}
		}
	}
}

func TestMatrixThatDoesNotConverge(t *testing.T) {
	for _, s := range samples.Cases() {
		for shift := range s.Wide {
			a := samples.Model(t, s.Fill("symbols a;states 2;arc 0 - 0 x0;arc 0 - 1 one;arc 1 - 0 one", shift))
			want := s.Text("x0", shift) + " " + s.One + "; " + s.One + " " + s.Zero
			if got, e := epsilon.Matrix(a); e != api.OK || shownMatrix(a.Ring, got) != want {
				t.Errorf("%s: Matrix is %s, %v, not %s", s.Line, shownMatrix(a.Ring, got), e, want)
			}
			mustFail(t, s.Line, a, api.ErrStar)
		}
	}
}

func TestMatrixOfManyStates(t *testing.T) {
	// A weight at each place of a diagonal of the largest matrix, and one in its last corner.
	for _, s := range samples.Cases() {
		a := samples.Model(t, s.Fill("symbols a;states 64;arc 63 - 0 w0", 0))
		w := a.Arcs[0].Weight
		for i := range api.MaxStates - 1 {
			a.Arcs = append(a.Arcs, api.Arc{From: i, To: i + 1, Weight: w})
		}
		m, e := epsilon.Matrix(a)
		if e != api.OK || len(m) != api.MaxStates {
			t.Fatalf("%s: Matrix has %d rows, %v", s.Line, len(m), e)
		}
		for i, row := range m {
			for j, got := range row {
				want := semiring.Zero(a.Ring)
				if j == (i+1)%api.MaxStates {
					want = w
				}
				if len(row) != api.MaxStates || !semiring.Equal(got, want) {
					t.Errorf("%s: row %d, column %d is %v", s.Line, i, j, got)
				}
			}
		}
	}
}

func TestMatrixAtRandom(t *testing.T) {
	source := rand.New(rand.NewSource(1))
	for _, s := range samples.Cases() {
		for range 20 {
			a := random(t, source, s, 1+source.Intn(5), source.Intn(8), anywhere)
			m, e := epsilon.Matrix(a)
			if e != api.OK || shownMatrix(a.Ring, m) != shownMatrix(a.Ring, matrixOf(samples.Normal(t, a))) {
				t.Errorf("%s: Matrix is %s, %v", samples.Shown(a), shownMatrix(a.Ring, m), e)
			}
		}
	}
}
