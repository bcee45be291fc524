package regex

import (
	"slices"
	"strings"

	"weighted/api"
	"weighted/semiring"
)

// writer is a text that is written.
type writer struct {
	ring  api.Ring
	table []string
	text  strings.Builder
}

// put writes what follows.
func (out *writer) put(s string) {
	out.text.WriteString(s)
	// Long weights take their time, and none behind this one is needed.
	if out.text.Len() > api.MaxText {
		panic(failure{err: api.ErrLimit})
	}
}

// expression writes the expression with which a list begins, and returns what stands behind it.
func (out *writer) expression(e []api.ENode) (rest []api.ENode) {
	x, rest := e[0], e[1:]
	switch x.Op {
	case api.EZero:
		out.put("0")
	case api.EOne:
		out.put("1")
	case api.ESymbol:
		out.put(out.table[x.Num-1])
	case api.EScale:
		out.put("[" + semiring.Format(out.ring, x.Weight) + "]")
		rest = out.operand(rest, api.ESum, api.EProduct, api.EStar)
	case api.ESum:
		rest = out.operand(rest)
		out.put(" + ")
		rest = out.operand(rest, api.ESum)
	case api.EProduct:
		rest = out.operand(rest, api.ESum)
		out.put(" ")
		rest = out.operand(rest, api.ESum, api.EProduct)
	case api.EStar:
		rest = out.operand(rest, api.ESum, api.EProduct)
		out.put("*")
	}
	return rest
}

// operand does the same with an operand, which it writes in brackets if it is one of some operations.
func (out *writer) operand(e []api.ENode, bracketed ...int) (rest []api.ENode) {
	if !slices.Contains(bracketed, e[0].Op) {
		return out.expression(e)
	}
	out.put("(")
	rest = out.expression(e)
	out.put(")")
	return rest
}
