package rules

import (
	"reflect"
	"slices"
	"testing"

	"weighted/api"
)

func TestDump(t *testing.T) {
	list := []int{1, 2, 3}
	parts := []api.Weight{{Cost: 1}, {Cost: 2}}
	a := api.Auto{Arcs: []api.Arc{{Weight: api.Weight{Parts: parts[:1]}}}}
	values := func() []any { return []any{list[:1], a} }
	short, long := dumped(values(), false), dumped(values(), true)
	list[2] = 4
	between := dumped(values(), true)
	parts[1].Cost = 3
	if long == between || between == dumped(values(), true) || dumped(values(), false) != short {
		t.Error("what is behind a length")
	}
	parts[0].Cost = 3
	if dumped(values(), false) == short {
		t.Error("what is in front of it")
	}
	if dumped([]int(nil), true) != dumped([]int{}, true) {
		t.Error("nil and empty slices")
	}
}

func TestApart(t *testing.T) {
	list := []int{1, 2, 3}
	parts := []api.Weight{{Cost: 1}, {Cost: 2}}
	a := api.Auto{Arcs: []api.Arc{{Weight: api.Weight{Parts: parts[:1]}}}}
	if apart(list[:1], list[2:]) || apart(a, parts[1:]) || apart(list, a, list) || !apart(list, a) || !apart(list[:1:1], list[1:]) {
		t.Error("apart is wrong")
	}
}

func TestLayout(t *testing.T) {
	a := api.Auto{Ring: api.Ring{Kind: 6, Parts: []int{1, 2}}, Initial: []api.Weight{{Q: api.Rat{Num: []uint32{5}}}}, Final: []api.Weight{}}
	for _, room := range []int{0, 2} {
		b := layout(reflect.ValueOf(a), room).Interface().(api.Auto)
		if dumped(a, false) != dumped(b, false) || !apart(a, b) {
			t.Errorf("room %d: %v", room, b)
		}
		if room > 0 && (b.Arcs[:1][0].From != -9 || b.Initial[0].Q.Num[:2][1] != 9 || b.Final == nil) || room == 0 && b.Final != nil {
			t.Errorf("room %d: %v", room, b)
		}
	}
}

func TestBroken(t *testing.T) {
	list := []int{3, 1, 2}
	kept := 0
	for name, f := range map[string]any{
		"sorts it":      func(x []int) int { slices.Sort(x); return x[0] },
		"writes behind": func(x []int) int { return len(append(x, 5)) },
		"reads behind":  func(x []int) int { return cap(x) },
		"returns it":    func(x []int) []int { return x },
		"returns twice": func(x []int) ([]int, []int) { y := slices.Clone(x); return y[:1], y },
		"counts calls":  func(x []int) int { kept++; return kept },
	} {
		if broken(f, []any{list}) == "" {
			t.Errorf("what %s is not found", name)
		}
	}
	if what := broken(func(x, y []int) []int { return append(slices.Clone(x), y...) }, []any{list, nil}); what != "" {
		t.Errorf("found where nothing is: %s", what)
	}
	if broken(func(x []int) bool { return x == nil }, []any{list[:0]}) == "" {
		t.Error("nil and empty slices are told apart, and it is not found")
	}
}
