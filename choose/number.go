package choose

import (
	"alembic/api"
	"alembic/mach"
)

// operation is an operation of two, or, where it can be one, an operation with a number.
func (c *chooser) operation(x api.Op2) api.Expr {
	if y, ok := x.Y.View().(api.Num); ok && c.takes(x.Op, y.V) {
		return withNumber(x.Op, x.X, y.V)
	}
	if y, ok := x.X.View().(api.Num); ok && isEitherWay(x.Op) && c.takes(x.Op, y.V) {
		return withNumber(x.Op, x.Y, y.V)
	}
	return x.Expr()
}

// takes tells whether an operation of two can be one with a number, where its second operand is this value.
func (c *chooser) takes(op int, v api.Value) bool {
	op, v = added(op, v)
	_, kind, _ := mach.Shape(op)
	n := number(v)
	return v.Kind == kind && Fits(c.target, n) && (hasNumbers(op) || isShift(op) && n >= 0 && n < width(op))
}

func withNumber(op int, x api.Expr, v api.Value) api.Expr {
	op, v = added(op, v)
	return api.OpI{Op: op, X: x, N: number(v)}.Expr()
}

// added is an operation and its second operand; of a subtraction it is the addition of the value turned.
func added(op int, v api.Value) (int, api.Value) {
	if plain(op) != api.OpSub {
		return op, v
	}
	turned, _ := mach.Eval1(op-api.OpSub+api.OpNeg, v)
	return op - api.OpSub + api.OpAdd, turned
}

// plain is an operation, of Long as the same one of Int.
func plain(op int) int {
	if op > api.OfLong {
		return op - api.OfLong
	}
	return op
}

// isEitherWay tells whether the order of an operation's operands plays no part.
func isEitherWay(op int) bool {
	switch plain(op) {
	case api.OpAdd, api.OpAnd, api.OpOr, api.OpXor, api.OpEq, api.OpNe:
		return true
	}
	return false
}

// hasNumbers tells whether an operation may have any number that fits.
func hasNumbers(op int) bool {
	o := plain(op)
	return isEitherWay(op) || o >= api.OpEq && o <= api.OpGeU
}

func isShift(op int) bool {
	o := plain(op)
	return o == api.OpShl || o == api.OpShr || o == api.OpShrU
}

// width is how many bits an operation's first operand has.
func width(op int) int64 {
	if op > api.OfLong {
		return 64
	}
	return 32
}

// number is an Int or a Long by its sign.
func number(v api.Value) int64 {
	if v.Kind == api.Int {
		return int64(int32(v.Bits))
	}
	return int64(v.Bits)
}

// address is an address and an offset behind it: what is added to the one is part of the other, as far as that fits.
func (c *chooser) address(at api.Expr, off int) (api.Expr, int) {
	for {
		x, ok := at.View().(api.OpI)
		if !ok || x.Op != api.OpAdd+api.OfLong || !Fits(c.target, int64(off)+x.N) {
			return at, off
		}
		at, off = x.X, off+int(x.N)
	}
}
