package symbols

import (
	"fmt"
	"slices"
	"strconv"
	"testing"

	"weighted/api"
)

// mergeInWords merges two tables as the chapter says it, with a map in place of searches.
func mergeInWords(t, u []string) (table []string, to []int) {
	symbol := map[string]int{}
	for _, name := range slices.Concat(t, u) {
		if symbol[name] == 0 {
			table = append(table, name)
			symbol[name] = len(table)
		}
	}
	for _, name := range u {
		to = append(to, symbol[name])
	}
	return table, to
}

// checkMerge compares a merge with the one that is expected.
func checkMerge(t *testing.T, v, u, table []string, to []int) {
	t.Helper()
	gotTable, gotTo, e := Merge(v, u)
	if e != api.OK || !slices.Equal(gotTable, table) || !slices.Equal(gotTo, to) {
		t.Errorf("%q and %q: %q, %v, %v, not %q, %v", v, u, gotTable, gotTo, e, table, to)
	}
}

// checkNoMerge checks that a merge has an error, and nothing else.
func checkNoMerge(t *testing.T, v, u []string, want api.Errno) {
	t.Helper()
	if table, to, e := Merge(v, u); e != want || len(table) != 0 || len(to) != 0 {
		t.Errorf("%.99q and %.99q: %q, %v, %v, not %v", v, u, table, to, e, want)
	}
}

// reversed returns a table with its names in the other order.
func reversed(table []string) []string {
	out := slices.Clone(table)
	slices.Reverse(out)
	return out
}

// upTo returns the numbers from a first to a last one.
func upTo(first, last int) []int {
	var out []int
	for i := first; i <= last; i++ {
		out = append(out, i)
	}
	return out
}

func TestMerge(t *testing.T) {
	for _, x := range []struct {
		t, u, table []string
		to          []int
	}{
		{[]string{"a", "b"}, []string{"b", "c"}, []string{"a", "b", "c"}, []int{2, 3}},
		{[]string{"a"}, []string{"a"}, []string{"a"}, []int{1}},
		{[]string{"a"}, []string{"b"}, []string{"a", "b"}, []int{2}},
		{[]string{"b"}, []string{"a"}, []string{"b", "a"}, []int{2}},
		{[]string{"a", "b"}, []string{"b", "a"}, []string{"a", "b"}, []int{2, 1}},
		{[]string{"b", "c"}, []string{"a", "b"}, []string{"b", "c", "a"}, []int{3, 1}},
		{[]string{"z", "y"}, []string{"d", "y", "c", "z", "b"}, []string{"z", "y", "d", "c", "b"}, []int{3, 2, 4, 1, 5}},
		{[]string{"a", "b", "c"}, []string{"c"}, []string{"a", "b", "c"}, []int{3}},
		{[]string{"c"}, []string{"a", "b", "c"}, []string{"c", "a", "b"}, []int{2, 3, 1}},
		{[]string{"a"}, []string{"A", "aa", "a", "00"}, []string{"a", "A", "aa", "00"}, []int{2, 3, 1, 4}},
	} {
		checkMerge(t, x.t, x.u, x.table, x.to)
	}
}

func TestMergeOfATableWithItself(t *testing.T) {
	for _, table := range tables() {
		checkMerge(t, table, table, table, upTo(1, len(table)))
		checkMerge(t, table, reversed(table), table, reversedNumbers(len(table)))
	}
}

// reversedNumbers returns the numbers from n down to 1.
func reversedNumbers(n int) []int {
	out := upTo(1, n)
	slices.Reverse(out)
	return out
}

func TestMergeUpToTheLimit(t *testing.T) {
	for n := 1; n <= api.MaxSymbols; n++ {
		v := full("a", n)
		for k := 1; k <= api.MaxSymbols; k++ {
			u := full("b", k)
			if n+k > api.MaxSymbols {
				checkNoMerge(t, v, u, api.ErrLimit)
				continue
			}
			checkMerge(t, v, u, slices.Concat(v, u), upTo(n+1, n+k))
		}
	}
	most := full("a", api.MaxSymbols)
	for i := range api.MaxSymbols {
		// One name of the second table is new: the first one, the last one, or one between them.
		u := changed(most, i, "new")
		checkNoMerge(t, most, u, api.ErrLimit)
		rest := slices.Delete(slices.Clone(most), i, i+1)
		checkMerge(t, rest, u, append(slices.Clone(rest), "new"), mapped(rest, u))
		checkMerge(t, rest, most, append(slices.Clone(rest), "a"+strconv.Itoa(i)), mapped(rest, most))
	}
}

// mapped returns the symbols of u in the merged table.
func mapped(v, u []string) []int {
	_, to := mergeInWords(v, u)
	return to
}

func TestMergeWithoutTable(t *testing.T) {
	most, one := full("x", api.MaxSymbols), []string{"a"}
	for _, bad := range noTables() {
		// The last of these would have too many names, too.
		for _, good := range [][]string{one, {"b", "c"}, most} {
			checkNoMerge(t, bad, good, api.ErrName)
			checkNoMerge(t, good, bad, api.ErrName)
		}
		checkNoMerge(t, bad, bad, api.ErrName)
		checkNoMerge(t, bad, nil, api.ErrName)
	}
	checkNoMerge(t, full("a", api.MaxSymbols+1), full("b", api.MaxSymbols+1), api.ErrName)
	checkNoMerge(t, most, one, api.ErrLimit)
	checkNoMerge(t, one, most, api.ErrLimit)
}

// arrangements returns all lists of different names of a list.
func arrangements(from []string) [][]string {
	out := [][]string{nil}
	for i, name := range from {
		for _, more := range arrangements(slices.Delete(slices.Clone(from), i, i+1)) {
			out = append(out, append([]string{name}, more...))
		}
	}
	return out
}

func TestMergeOfAllSmallTables(t *testing.T) {
	all := arrangements([]string{"d", "b", "~", "10"})
	if len(all) != 65 {
		t.Fatalf("%d lists", len(all))
	}
	for _, v := range all {
		for _, u := range all {
			if len(v) == 0 || len(u) == 0 {
				checkNoMerge(t, v, u, api.ErrName)
				continue
			}
			table, to := mergeInWords(v, u)
			checkMerge(t, v, u, table, to)
			for i, name := range u {
				if Find(table, name) != to[i] || Name(table, to[i]) != name {
					t.Errorf("%q and %q: %q", v, u, name)
				}
			}
		}
	}
}

// roomy returns a table with names behind its length.
func roomy(table []string) []string {
	return append(slices.Clone(table), "behind", "behind", "it")[:len(table)]
}

func TestArgumentsAreLeftAlone(t *testing.T) {
	for _, v := range append(tables(), noTables()...) {
		for _, u := range [][]string{{"p", "q"}, {"a", "new"}, full("a", api.MaxSymbols), reversed(v), {"0"}, nil} {
			v, u := roomy(v), roomy(u)
			vBefore, uBefore := slices.Clone(v[:cap(v)]), slices.Clone(u[:cap(u)])
			_, _, _ = Valid(v), Find(v, "p"), Name(v, 1)
			table, to, _ := Merge(v, u)
			for i := range table {
				table[i] = "over"
			}
			_, _ = append(table, "over", "over"), append(to, 99)
			if !slices.Equal(v[:cap(v)], vBefore) || !slices.Equal(u[:cap(u)], uBefore) {
				t.Errorf("%.99q and %.99q: an argument has changed", vBefore, uBefore)
			}
		}
	}
}

func TestResultsAreNewMemory(t *testing.T) {
	v, u := []string{"a", "b"}, []string{"b", "c"}
	for _, x := range [][2][]string{{v, u}, {v, v}, {u, v}, {u[:1], v}} {
		table, to, _ := Merge(x[0], x[1])
		again, toAgain, _ := Merge(x[0], x[1])
		want := fmt.Sprint(again, toAgain)
		for i := range table[:cap(table)] {
			table[:cap(table)][i] = "over"
		}
		for i := range to[:cap(to)] {
			to[:cap(to)][i] = 99
		}
		later, toLater, _ := Merge(x[0], x[1])
		if fmt.Sprint(again, toAgain) != want || fmt.Sprint(later, toLater) != want {
			t.Errorf("%q and %q: %v, not %s", x[0], x[1], later, want)
		}
	}
}
