package mach

import (
	"alembic/api"
)

// Shape is the kinds of an operation's operands and result.
func Shape(op int) (x, y, r int) {
	switch {
	case op >= api.OpNeg && op <= api.OpGeU:
		return wholeShape(op, api.Int)
	case op >= api.OpNeg+api.OfLong && op <= api.OpGeU+api.OfLong:
		return wholeShape(op-api.OfLong, api.Long)
	case op == api.OpNegD:
		return api.Double, 0, api.Double
	case op >= api.OpAddD && op <= api.OpDivD:
		return api.Double, api.Double, api.Double
	case op >= api.OpEqD && op <= api.OpGeD:
		return api.Double, api.Double, api.Int
	}
	x, r = turnShape(op)
	return x, 0, r
}

// wholeShape is the Shape of one of OpNeg to OpGeU, of whole numbers of a kind.
func wholeShape(op, kind int) (x, y, r int) {
	switch {
	case op == api.OpNeg || op == api.OpNot:
		return kind, 0, kind
	case isShift(op):
		return kind, api.Int, kind
	case op >= api.OpEq:
		return kind, kind, api.Int
	}
	return kind, kind, kind
}

// turnShape is the operand's and the result's kind of what turns values of one kind into others.
func turnShape(op int) (x, r int) {
	switch op {
	case api.OpS8, api.OpU8, api.OpS16, api.OpU16, api.OpTruth, api.OpFalse:
		return api.Int, api.Int
	case api.OpLongS, api.OpLongU:
		return api.Int, api.Long
	case api.OpInt:
		return api.Long, api.Int
	case api.OpDblS, api.OpDblU:
		return api.Int, api.Double
	case api.OpDblL, api.OpDblUL:
		return api.Long, api.Double
	case api.OpIntD, api.OpUintD:
		return api.Double, api.Int
	case api.OpLongD, api.OpUlongD:
		return api.Double, api.Long
	}
	return 0, 0
}

func isShift(op int) bool {
	return op == api.OpShl || op == api.OpShr || op == api.OpShrU
}
