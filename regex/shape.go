package regex

import (
	"slices"

	"weighted/api"
	"weighted/semiring"
)

// arity returns how many operands an operation has.
func arity(op int) int {
	switch op {
	case api.EScale, api.EStar:
		return 1
	case api.ESum, api.EProduct:
		return 2
	}
	return 0
}

// isOperation reports whether x is an operation, whatever stands behind it.
func isOperation(r api.Ring, symbols int, x api.ENode) bool {
	if x.Op < api.EZero || x.Op > api.EStar {
		return false
	}
	if x.Op == api.ESymbol {
		if x.Num < 1 || x.Num > symbols {
			return false
		}
	} else if x.Num != 0 {
		return false
	}
	if x.Op == api.EScale {
		return semiring.Check(r, x.Weight)
	}
	return semiring.Equal(x.Weight, api.Weight{})
}

// isExpression reports whether a list of operations is one expression with few enough levels.
func isExpression(e []api.ENode) bool {
	sizes, levels, ok := measured(e)
	return ok && len(e) > 0 && sizes[0] == len(e) && levels[0] <= api.MaxDepth
}

// measured returns for each operation of a list the numbers of operations and of levels of the expression that begins with it, or false if the list ends before an operation has its operands.
func measured(e []api.ENode) (sizes, levels []int, ok bool) {
	sizes, levels = make([]int, len(e)), make([]int, len(e))
	// Operands stand behind their operation, so that they are measured before it is.
	for i, x := range slices.Backward(e) {
		size, level := 1, 1
		for range arity(x.Op) {
			operand := i + size
			if operand >= len(e) {
				return nil, nil, false
			}
			size += sizes[operand]
			level = max(level, levels[operand]+1)
		}
		sizes[i], levels[i] = size, level
	}
	return sizes, levels, true
}
