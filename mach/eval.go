package mach

import (
	"math"

	"alembic/api"
)

// Eval1 is an operation of one.
func Eval1(op int, x api.Value) (api.Value, bool) {
	if op == api.OpTruth || op == api.OpFalse {
		holds, ok := Truth(x)
		return answer(api.Int, flag[uint64](holds == (op == api.OpTruth)), ok)
	}
	a, b, r := Shape(op)
	if a == 0 || b != 0 || x.Kind != a {
		return api.Value{}, false
	}
	n, ok := bits1(op, x.Bits)
	return answer(r, n, ok)
}

// Eval2 is an operation of two.
func Eval2(op int, x, y api.Value) (api.Value, bool) {
	if x.Kind == api.Ptr || y.Kind == api.Ptr {
		return pointers(op, x, y)
	}
	a, b, r := Shape(op)
	if b == 0 || x.Kind != a || y.Kind != b {
		return api.Value{}, false
	}
	n, ok := bits2(op, a, x.Bits, y.Bits)
	return answer(r, n, ok)
}

// answer is the value of a kind with these bits, or, where there is no meaning, the undefined one.
func answer(kind int, bits uint64, ok bool) (api.Value, bool) {
	if !ok {
		return api.Value{}, false
	}
	return api.Value{Kind: kind, Bits: bits}, true
}

// bits1 is an operation of one whose operand is of the kind that it must be.
func bits1(op int, x uint64) (uint64, bool) {
	switch op {
	case api.OpNeg, api.OpNot:
		return uint64(turn(op, uint32(x))), true
	case api.OpNeg + api.OfLong, api.OpNot + api.OfLong:
		return turn(op-api.OfLong, x), true
	case api.OpNegD:
		return x ^ signBit, true
	case api.OpIntD, api.OpUintD, api.OpLongD, api.OpUlongD:
		return cut(op, math.Trunc(math.Float64frombits(x)))
	case api.OpDblS, api.OpDblU, api.OpDblL, api.OpDblUL:
		return math.Float64bits(double(op, x)), true
	}
	return extend(op, x), true
}

// bits2 is an operation of two whose operands are of the kinds that they must be, the first one of this kind.
func bits2(op, kind int, x, y uint64) (uint64, bool) {
	switch {
	case kind == api.Double:
		return doubles(op, x, y), true
	case kind == api.Int:
		r, ok := whole[int32](op, uint32(x), uint32(y))
		return uint64(r), ok
	case isShift(op - api.OfLong):
		// How far is an Int: what stands above its low 32 bits plays no part.
		return whole[int64](op-api.OfLong, x, uint64(uint32(y)))
	}
	return whole[int64](op-api.OfLong, x, y)
}
