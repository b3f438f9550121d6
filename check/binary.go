package check

import (
	"alembic/api"
	"alembic/ctype"
)

func (b *body) binary(t api.TBinary) result {
	if t.Op == "," {
		return b.comma(t)
	}
	x, y := b.value(t.X), b.value(t.Y)
	switch {
	case t.Op == "&&" || t.Op == "||":
		require(isScalar(x.t) && isScalar(y.t), t.At, api.ErrType)
		return value{x: both(t.Op, x.x, y.x), t: intType()}
	case t.Op == "+" || t.Op == "-":
		return b.sum(t.At, t.Op, x, y)
	case isCompare(t.Op):
		return compared(t.At, t.Op, x, y)
	}
	return reckoned(t.At, t.Op, x, y)
}

func (b *body) comma(t api.TBinary) result {
	x := effectOf(t.X, b.expr(t.X))
	r := b.expr(t.Y)
	if y, ok := r.(nothing); ok {
		return nothing{x: api.Comma{X: x, Y: y.x}.Expr()}
	}
	y := valueOf(t.Y, r)
	return value{x: api.Comma{X: x, Y: y.x}.Expr(), t: y.t}
}

func both(op string, x, y api.Expr) api.Expr {
	if op == "&&" {
		return api.And{X: x, Y: y}.Expr()
	}
	return api.Or{X: x, Y: y}.Expr()
}

// typeFor is the type in which an operation of a sign is done with two arithmetic types, if it can be.
func typeFor(sign string, x, y api.Type) (api.Type, bool) {
	if wantsWhole(sign) && !(isWhole(x) && isWhole(y)) {
		return api.Type{}, false
	}
	if isShift(sign) {
		return ctype.Promote(x), true
	}
	return ctype.Common(x, y)
}

// second is the second operand of an operation that is done in a type. How far a shift goes is an Int always.
func second(sign string, y value, in api.Type) api.Expr {
	if !isShift(sign) {
		return turned(y, in).x
	}
	y = promoted(y)
	if ctype.Kind(y.t) == api.Long {
		return api.Op1{Op: api.OpInt, X: y.x}.Expr()
	}
	return y.x
}

// reckoned is an operation of two arithmetic values.
func reckoned(at api.Place, sign string, x, y value) value {
	c, ok := typeFor(sign, x.t, y.t)
	require(ok, at, api.ErrType)
	return value{x: op2(operation(sign, c), turned(x, c).x, second(sign, y, c)), t: c}
}

// compared is a comparison of two values.
func compared(at api.Place, sign string, x, y value) value {
	v, w, ok := matched(x, y)
	require(ok, at, api.ErrType)
	if isPointer(v.t) && isOrder(sign) {
		require(ctype.Same(x.t, y.t), at, api.ErrType)
	}
	return value{x: op2(operation(sign, v.t), v.x, w.x), t: intType()}
}

// sum is + or -, of numbers and of pointers.
func (b *body) sum(at api.Place, sign string, x, y value) value {
	to, first := pointee(x.t)
	other, last := pointee(y.t)
	switch {
	case first && last:
		return b.distance(at, sign, x, y)
	case first:
		return value{x: op2(operation(sign, x.t), x.x, b.scaled(at, y, to)), t: x.t}
	case last && sign == "+":
		return value{x: op2(operation(sign, y.t), b.scaled(at, x, other), y.x), t: y.t}
	}
	return reckoned(at, sign, x, y)
}

// distance is how many things stand between two pointers.
func (b *body) distance(at api.Place, sign string, x, y value) value {
	to, _ := pointee(x.t)
	require(sign == "-" && ctype.Same(x.t, y.t), at, api.ErrType)
	bytes := op2(operation(sign, x.t), x.x, y.x)
	return value{x: op2(operation("/", longType()), bytes, longNum(b.unit.sizeAt(at, to))), t: longType()}
}

// scaled is how many bytes so many things of a type have.
func (b *body) scaled(at api.Place, v value, of api.Type) api.Expr {
	require(isWhole(v.t), at, api.ErrType)
	return op2(operation("*", longType()), turned(v, longType()).x, longNum(b.unit.sizeAt(at, of)))
}
