package mach

import (
	"math/bits"

	"alembic/api"
)

// signed is a whole number of either width, by its sign.
type signed interface{ int32 | int64 }

// unsigned is a whole number of either width, without a sign.
type unsigned interface{ uint32 | uint64 }

// number is what can be held against its like.
type number interface{ signed | unsigned | float64 }

// whole is one of OpAdd to OpGeU: U is the width, S the same width with a sign.
func whole[S signed, U unsigned](op int, x, y U) (U, bool) {
	switch {
	case op >= api.OpLtU:
		return flag[U](compare(op-api.OpLtU+api.OpLt, x, y)), true
	case op >= api.OpEq:
		return flag[U](compare(op, S(x), S(y))), true
	case isShift(op):
		return shift[S](op, x, y)
	}
	switch op {
	case api.OpDiv, api.OpMod:
		if S(y) == -1 && isLowest(x) {
			return 0, false
		}
		r, ok := divide(op == api.OpMod, S(x), S(y))
		return U(r), ok
	case api.OpDivU, api.OpModU:
		return divide(op == api.OpModU, x, y)
	}
	return arith(op, x, y), true
}

// arith is what whole numbers of a width answer the same with a sign and without.
func arith[U unsigned](op int, x, y U) U {
	switch op {
	case api.OpAdd:
		return x + y
	case api.OpSub:
		return x - y
	case api.OpMul:
		return x * y
	case api.OpAnd:
		return x & y
	case api.OpOr:
		return x | y
	}
	return x ^ y
}

// divide is the quotient, rounded towards 0, or the rest.
func divide[N signed | unsigned](rest bool, x, y N) (N, bool) {
	if y == 0 {
		return 0, false
	}
	if rest {
		return x % y, true
	}
	return x / y, true
}

// isLowest tells whether only the sign's bit is set: the number whose opposite doesn't fit.
func isLowest[U unsigned](x U) bool {
	return x != 0 && x == -x
}

// shift is OpShl, OpShr or OpShrU.
func shift[S signed, U unsigned](op int, x, by U) (U, bool) {
	if by >= widthOf[U]() {
		return 0, false
	}
	switch op {
	case api.OpShl:
		return x << by, true
	case api.OpShr:
		return U(S(x) >> by), true
	}
	return x >> by, true
}

// widthOf is how many bits a width has.
func widthOf[U unsigned]() U {
	return U(bits.OnesCount64(uint64(^U(0))))
}

// compare is one of OpEq to OpGe, of whatever can be held against its like.
func compare[N number](op int, x, y N) bool {
	switch op {
	case api.OpEq:
		return x == y
	case api.OpNe:
		return x != y
	case api.OpLt:
		return x < y
	case api.OpLe:
		return x <= y
	case api.OpGt:
		return x > y
	}
	return x >= y
}

// turn is OpNeg or OpNot.
func turn[U unsigned](op int, x U) U {
	if op == api.OpNeg {
		return -x
	}
	return ^x
}

func flag[U unsigned](holds bool) U {
	if holds {
		return 1
	}
	return 0
}
