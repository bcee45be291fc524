// Package rules holds the functions of all layers against the rules that no chapter repeats: no panic (R1), arguments as they were, results of new memory, and nothing behind the length of a slice read or written (R2), nil and empty slices equal (R3), and the same result for the same arguments (R6).
package rules

import (
	"cmp"
	"fmt"
	"reflect"
	"slices"
	"strings"
	"testing"
)

// obey checks that a function keeps the rules with these arguments.
func obey(t *testing.T, f any, arguments ...any) {
	t.Helper()
	if what := broken(f, arguments); what != "" {
		t.Errorf("%s, for %.300v", what, arguments)
	}
}

// broken calls a function with arguments of several layouts in memory and returns which rule it breaks with one of them, or "".
func broken(f any, arguments []any) string {
	want := ""
	for _, room := range []int{0, 2} {
		laid := make([]any, len(arguments))
		for i, x := range arguments {
			if x != nil {
				laid[i] = layout(reflect.ValueOf(x), room).Interface()
			}
		}
		before := dumped(laid, true)
		got := call(f, laid)
		if dumped(laid, true) != before {
			return "an argument has changed"
		}
		if !apart(append(slices.Clone(got), laid...)...) {
			return "a result shares memory"
		}
		result := dumped(got, false)
		if want != "" && result != want {
			return "the layout in memory changes the result"
		}
		want = result
	}
	return ""
}

// call returns the results of a function. An argument nil is the zero of its type.
func call(f any, arguments []any) []any {
	function := reflect.ValueOf(f)
	in := make([]reflect.Value, len(arguments))
	for i, x := range arguments {
		in[i] = reflect.Zero(function.Type().In(i))
		if x != nil {
			in[i] = reflect.ValueOf(x)
		}
	}
	var out []any
	for _, v := range function.Call(in) {
		out = append(out, v.Interface())
	}
	return out
}

// layout returns a value in new memory, with so much room behind the end of each slice, which is filled. Without room, an empty slice is nil.
func layout(v reflect.Value, room int) reflect.Value {
	out := reflect.New(v.Type()).Elem()
	switch v.Kind() {
	case reflect.Struct:
		for i := range v.NumField() {
			out.Field(i).Set(layout(v.Field(i), room))
		}
	case reflect.Array:
		for i := range v.Len() {
			out.Index(i).Set(layout(v.Index(i), room))
		}
	case reflect.Slice:
		if v.Len()+room == 0 {
			return out
		}
		out.Set(reflect.MakeSlice(v.Type(), v.Len()+room, v.Len()+room))
		for i := range v.Len() {
			out.Index(i).Set(layout(v.Index(i), room))
		}
		for i := range room {
			out.Index(v.Len() + i).Set(junk(v.Type().Elem()))
		}
		return out.Slice(0, v.Len())
	default:
		out.Set(v)
	}
	return out
}

// junk returns a value that is not zero.
func junk(of reflect.Type) reflect.Value {
	out := reflect.New(of).Elem()
	switch of.Kind() {
	case reflect.Struct:
		for i := range out.NumField() {
			out.Field(i).Set(junk(of.Field(i).Type))
		}
	case reflect.Array:
		for i := range out.Len() {
			out.Index(i).Set(junk(of.Elem()))
		}
	case reflect.Bool:
		out.SetBool(true)
	case reflect.Int:
		out.SetInt(-9)
	case reflect.Uint8, reflect.Uint32, reflect.Uint64:
		out.SetUint(9)
	case reflect.String:
		out.SetString("junk")
	}
	return out
}

// dump writes a value, with what stands behind the lengths of its slices or without it.
func dump(v reflect.Value, behind bool, out *strings.Builder) {
	switch v.Kind() {
	case reflect.Interface:
		dump(v.Elem(), behind, out)
	case reflect.Struct:
		out.WriteString("{")
		for i := range v.NumField() {
			dump(v.Field(i), behind, out)
		}
		out.WriteString("}")
	case reflect.Array:
		for i := range v.Len() {
			dump(v.Index(i), behind, out)
		}
	case reflect.Slice:
		size := v.Len()
		if behind {
			size = v.Cap()
		}
		fmt.Fprintf(out, "[%d:", v.Len())
		for i := range size {
			dump(v.Slice(0, size).Index(i), behind, out)
		}
		out.WriteString("]")
	case reflect.Invalid, reflect.Func:
	case reflect.String:
		fmt.Fprintf(out, " %q", v.Interface())
	default:
		fmt.Fprintf(out, " %v", v.Interface())
	}
}

// dumped returns what dump writes.
func dumped(x any, behind bool) string {
	var out strings.Builder
	dump(reflect.ValueOf(x), behind, &out)
	return out.String()
}

// block is a range of addresses.
type block struct {
	start, end uintptr
}

// blocks returns the memory of all slices of a value, with the room behind their ends.
func blocks(v reflect.Value) []block {
	var out []block
	switch v.Kind() {
	case reflect.Struct:
		for i := range v.NumField() {
			out = append(out, blocks(v.Field(i))...)
		}
	case reflect.Slice:
		if v.Cap() > 0 {
			out = append(out, block{v.Pointer(), v.Pointer() + uintptr(v.Cap())*v.Type().Elem().Size()})
		}
		for i := range v.Len() {
			out = append(out, blocks(v.Index(i))...)
		}
	}
	return out
}

// apart reports whether no two slices of these values share memory.
func apart(values ...any) bool {
	var all []block
	for _, x := range values {
		all = append(all, blocks(reflect.ValueOf(x))...)
	}
	slices.SortFunc(all, func(a, b block) int { return cmp.Compare(a.start, b.start) })
	for i := 1; i < len(all); i++ {
		if all[i].start < all[i-1].end {
			return false
		}
	}
	return true
}
