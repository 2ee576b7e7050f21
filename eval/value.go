package eval

import (
	"math/bits"

	"wagebook/api"
	"wagebook/expr"
)

const (
	million = 1000000
	most    = 1000000000000 * million // the greatest value; so a sum of two of them doesn't wrap round
)

// valueOf is a right tree's node's value, by the values of the nodes ahead of it.
func (env Env) valueOf(node expr.Node, values []int64) (int64, api.Errno) {
	kid := func(i int) int64 { return values[node.Kids[i]] }
	switch node.Op {
	case expr.Var:
		value, known := env[node.Name]
		if !known {
			return 0, api.ErrUnknown
		}
		return within(value)
	case expr.Add:
		return within(kid(0) + kid(1))
	case expr.Sub:
		return within(kid(0) - kid(1))
	case expr.Mul:
		return product(kid(0), kid(1))
	case expr.Least:
		return min(kid(0), kid(1)), api.OK
	case expr.Most:
		return max(kid(0), kid(1)), api.OK
	case expr.Less:
		return truth(kid(0) < kid(1)), api.OK
	case expr.Equal:
		return truth(kid(0) == kid(1)), api.OK
	case expr.If:
		if kid(0) != 0 {
			return kid(1), api.OK
		}
		return kid(2), api.OK
	}
	return node.Num, api.OK
}

// within hands on a number that is a value.
func within(n int64) (int64, api.Errno) {
	if n < -most || n > most {
		return 0, api.ErrOverflow
	}
	return n, api.OK
}

// truth is what a comparison comes to.
func truth(is bool) int64 {
	if is {
		return million
	}
	return 0
}

// product is the product of two values, rounded once: without their signs, as a half goes away from 0 on both sides.
func product(a, b int64) (int64, api.Errno) {
	high, low := bits.Mul64(size(a), size(b))
	low, carry := bits.Add64(low, million/2, 0)
	high += carry
	if high >= million { // the quotient wouldn't fit in 64 bits
		return 0, api.ErrOverflow
	}
	n, _ := bits.Div64(high, low, million)
	if n > most {
		return 0, api.ErrOverflow
	}
	if (a < 0) != (b < 0) {
		return -int64(n), api.OK
	}
	return int64(n), api.OK
}

// size is a value without its sign.
func size(n int64) uint64 {
	return uint64(max(n, -n))
}
