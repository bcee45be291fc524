package regex

import (
	"slices"
	"strings"

	"weighted/api"
	"weighted/semiring"
	"weighted/symbols"
)

// tree is an expression that is read: a leaf, a unary or a binary. A list would not do, because the sign of a sum or a product stands behind its first operand.
type tree any

// leaf is an operation without operands.
type leaf struct {
	node api.ENode
}

// unary is an operation with one operand.
type unary struct {
	node    api.ENode
	operand tree
}

// binary is an operation with two operands.
type binary struct {
	node          api.ENode
	first, second tree
}

// listed appends the operations of a tree to a list, in prefix order.
func listed(t tree, to []api.ENode) []api.ENode {
	switch x := t.(type) {
	case leaf:
		to = append(to, x.node)
	case unary:
		to = listed(x.operand, append(to, x.node))
	case binary:
		to = listed(x.first, append(to, x.node))
		to = listed(x.second, to)
	}
	return to
}

// reader is a text with the place up to which it has been read.
type reader struct {
	ring  api.Ring
	table []string
	text  string
	at    int
}

// whole reads the whole text.
func (in *reader) whole() tree {
	t := in.sum()
	if in.at < len(in.text) {
		panic(failure{in.at, api.ErrSyntax})
	}
	return t
}

// sum reads products with "+" between them, and the spaces behind them.
func (in *reader) sum() tree {
	t := in.product()
	for in.next() == '+' {
		in.at++
		t = binary{api.ENode{Op: api.ESum}, t, in.product()}
	}
	return t
}

// product reads factors.
func (in *reader) product() tree {
	t := in.factor()
	for in.hasPrimary() {
		t = binary{api.ENode{Op: api.EProduct}, t, in.factor()}
	}
	return t
}

// factor reads a primary and its stars.
func (in *reader) factor() tree {
	t := in.primary()
	for in.next() == '*' {
		in.at++
		t = unary{api.ENode{Op: api.EStar}, t}
	}
	return t
}

// hasPrimary reports whether a primary begins here.
func (in *reader) hasPrimary() bool {
	b := in.next()
	return b == '(' || b == '[' || isNameByte(b)
}

// primary reads a primary.
func (in *reader) primary() tree {
	switch in.next() {
	case '(':
		in.at++
		t := in.sum()
		in.closing()
		return t
	case '[':
		in.at++
		w := in.weight()
		return unary{api.ENode{Op: api.EScale, Weight: w}, in.primary()}
	}
	return in.leaf()
}

// closing reads the bracket behind a sum.
func (in *reader) closing() {
	if in.next() != ')' {
		panic(failure{in.at, api.ErrSyntax})
	}
	in.at++
}

// weight reads a weight and the bracket behind it.
func (in *reader) weight() api.Weight {
	text, _, isClosed := strings.Cut(in.text[in.at:], "]")
	if !isClosed {
		panic(failure{len(in.text), api.ErrSyntax})
	}
	w, ok := semiring.Parse(in.ring, text)
	if !ok {
		panic(failure{in.at, api.ErrForm})
	}
	in.at += len(text) + len("]")
	return w
}

// leaf reads a name, "0" or "1".
func (in *reader) leaf() tree {
	end := in.at
	for end < len(in.text) && isNameByte(in.text[end]) {
		end++
	}
	t := leaf{in.named(in.text[in.at:end])}
	in.at = end
	return t
}

// named returns the operation that the bytes of a name stand for.
func (in *reader) named(name string) api.ENode {
	switch name {
	case "":
		panic(failure{in.at, api.ErrSyntax})
	case "0":
		return api.ENode{Op: api.EZero}
	case "1":
		return api.ENode{Op: api.EOne}
	}
	// symbols.Find would check the table again for each name.
	symbol := slices.Index(in.table, name) + 1
	if symbol == 0 {
		panic(failure{in.at, api.ErrName})
	}
	return api.ENode{Op: api.ESymbol, Num: symbol}
}

// next passes spaces and returns the byte behind them, or 0, which is no part of an expression, at the end of the text.
func (in *reader) next() byte {
	for in.at < len(in.text) && in.text[in.at] == ' ' {
		in.at++
	}
	if in.at == len(in.text) {
		return 0
	}
	return in.text[in.at]
}

// isNameByte reports whether names may have a byte. "0" and "1" alone are no names, but they are behind another byte.
func isNameByte(b byte) bool {
	return symbols.Valid([]string{"n" + string([]byte{b})})
}
