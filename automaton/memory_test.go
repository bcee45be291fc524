package automaton

import (
	"cmp"
	"fmt"
	"math/rand"
	"reflect"
	"slices"
	"strings"
	"testing"

	"weighted/api"
)

// block is a range of addresses.
type block struct {
	start, end uintptr
}

// blocks returns the memory of all slices of a value, with the room behind their ends.
func blocks(v reflect.Value) []block {
	var out []block
	switch v.Kind() {
	case reflect.Struct:
		for i := range v.NumField() {
			out = append(out, blocks(v.Field(i))...)
		}
	case reflect.Slice:
		if v.Cap() > 0 {
			out = append(out, block{v.Pointer(), v.Pointer() + uintptr(v.Cap())*v.Type().Elem().Size()})
		}
		for i := range v.Len() {
			out = append(out, blocks(v.Index(i))...)
		}
	}
	return out
}

// apart reports whether no two slices of these values share memory.
func apart(values ...any) bool {
	var all []block
	for _, x := range values {
		all = append(all, blocks(reflect.ValueOf(x))...)
	}
	slices.SortFunc(all, func(a, b block) int { return cmp.Compare(a.start, b.start) })
	for i := 1; i < len(all); i++ {
		if all[i].start < all[i-1].end {
			return false
		}
	}
	return true
}

// dump writes all of a value, also what stands behind the ends of its slices.
func dump(v reflect.Value, out *strings.Builder) {
	switch v.Kind() {
	case reflect.Interface:
		dump(v.Elem(), out)
	case reflect.Struct:
		for i := range v.NumField() {
			dump(v.Field(i), out)
		}
	case reflect.Array:
		for i := range v.Len() {
			dump(v.Index(i), out)
		}
	case reflect.Slice:
		fmt.Fprintf(out, "[%d of %d:", v.Len(), v.Cap())
		for i := range v.Cap() {
			dump(v.Slice(0, v.Cap()).Index(i), out)
		}
		out.WriteString("]")
	default:
		fmt.Fprintf(out, " %v", v.Interface())
	}
}

// dumped returns what dump writes.
func dumped(x any) string {
	var out strings.Builder
	dump(reflect.ValueOf(x), &out)
	return out.String()
}

// checkMemory checks that a call leaves its arguments as they are, and that its results share no memory with them or with each other.
func checkMemory(t *testing.T, what string, call func() []any, arguments ...any) {
	t.Helper()
	before := dumped(arguments)
	results := call()
	if dumped(arguments) != before {
		t.Errorf("%s: an argument has changed", what)
	}
	if !apart(append(results, arguments...)...) {
		t.Errorf("%s: a result shares memory", what)
	}
}

func TestDumpAndApart(t *testing.T) {
	list := []int{1, 2, 3}
	parts := []api.Weight{{Cost: 1}, {Cost: 2}}
	a := api.Auto{Arcs: []api.Arc{{Weight: api.Weight{Parts: parts[:1]}}}}
	before := dumped([]any{list[:1], a})
	list[2] = 4
	between := dumped([]any{list[:1], a})
	parts[1].Cost = 3
	if before == between || between == dumped([]any{list[:1], a}) {
		t.Error("dump does not write what is behind a length")
	}
	if apart(list[:1], list[2:]) || apart(a, parts[1:]) || apart(list, a, list) || !apart(list, a) || !apart(list[:1:1], list[1:]) {
		t.Error("apart is wrong")
	}
}

func TestMemory(t *testing.T) {
	source := rand.New(rand.NewSource(10))
	for _, s := range ringCases() {
		for range 10 {
			a := remade(random(t, source, s, 2, 3, 20), 2)
			b := remade(a, 1)
			to := extended(source.Perm(3), 0, 2)
			w := remadeWeight(read(t, s.ring, s.texts[source.Intn(len(s.texts))]), 2)
			wrong := remadeWeight(s.wrong[source.Intn(len(s.wrong))], 2)
			ring := remade(a, 2).Ring
			checkMemory(t, "automata", func() []any {
				first, _ := Normal(a)
				second, _ := Normal(a)
				third, _ := Renumber(a, to)
				fourth, _ := Renumber(a, to[:2])
				_, _ = Valid(a), Same(a, b)
				return []any{first, second, third, fourth}
			}, a, b, to)
			checkMemory(t, "letters", func() []any {
				var out []any
				for symbol := range 4 {
					first, _ := Letter(ring, 2, symbol, w)
					second, _ := Letter(ring, 2, symbol, wrong)
					out = append(out, first, second)
				}
				return out
			}, ring, w, wrong)
		}
	}
}

func TestMemoryOfInvalidArguments(t *testing.T) {
	for name, a := range invalid(t) {
		b := remade(a, 2)
		to := []int{2, 0, 1}
		checkMemory(t, name, func() []any {
			first, _ := Normal(b)
			second, _ := Renumber(b, to)
			_, _ = Valid(b), Same(b, b)
			return []any{first, second}
		}, b, to)
	}
}

func TestWhatIsBehindALengthDoesNotCount(t *testing.T) {
	source := rand.New(rand.NewSource(11))
	for _, s := range ringCases() {
		for range 10 {
			a := random(t, source, s, 2, 3, source.Intn(20))
			b := remade(a, 2)
			if !Valid(b) || !Same(a, b) {
				t.Errorf("%v: with room behind the slices: %v", s.ring, b)
			}
			checkSame(t, "normal form", mustNormal(t, b), mustNormal(t, a))
			to := source.Perm(3)
			first, _ := Renumber(a, to)
			second, _ := Renumber(b, extended(to, 1, 2))
			checkSame(t, "Renumber", second, first)
			w := read(t, s.ring, s.texts[source.Intn(len(s.texts))])
			third, _ := Letter(a.Ring, 2, 1, w)
			fourth, _ := Letter(b.Ring, 2, 1, remadeWeight(w, 2))
			checkSame(t, "Letter", fourth, third)
		}
	}
}
