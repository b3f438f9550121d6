package check

import (
	"alembic/api"
	"alembic/ctype"
	"alembic/mach"
)

// result is what an expression comes to: a value, a place, a function or nothing.
type result interface{ isResult() }

type (
	// value is a value of a type.
	value struct {
		x    api.Expr
		t    api.Type
		zero bool // whether it is a number 0 as it stands in the text, of which pointers may be made
	}
	// place is an address, and the type that stands there.
	place struct {
		addr api.Expr
		t    api.Type
	}
	// function is a function's address and type.
	function struct {
		addr api.Expr
		t    api.Type
	}
	// nothing is an expression without a value.
	nothing struct{ x api.Expr }
)

func (value) isResult()    {}
func (place) isResult()    {}
func (function) isResult() {}
func (nothing) isResult()  {}

func num(v api.Value) api.Expr { return api.Num{V: v}.Expr() }

func longNum(n int) api.Expr { return num(mach.LongOf(int64(n))) }

func op2(op int, x, y api.Expr) api.Expr { return api.Op2{Op: op, X: x, Y: y}.Expr() }

// valueOf is the value of what a tree comes to, which must have one.
func valueOf(t api.Tree, r result) value {
	switch x := r.(type) {
	case value:
		return x
	case function:
		return value{x: x.addr, t: pointerTo(x.t)}
	case place:
		if a, ok := x.t.View().(api.Array); ok {
			return value{x: x.addr, t: pointerTo(a.Of)}
		}
		if c := ctype.Chunk(x.t); c != 0 {
			return value{x: api.Load{Chunk: c, Addr: x.addr}.Expr(), t: x.t}
		}
	}
	fail(t.At, api.ErrType)
	return value{}
}

// effectOf is the expression for what a tree does, whether it has a value or not.
func effectOf(t api.Tree, r result) api.Expr {
	if x, ok := r.(nothing); ok {
		return x.x
	}
	if p, ok := r.(place); ok && isRecord(p.t) {
		return p.addr
	}
	return valueOf(t, r).x
}

// turned is a value of a scalar type as one of another.
func turned(v value, to api.Type) value {
	ops, _ := ctype.Ops(v.t, to)
	x := v.x
	for _, op := range ops {
		x = api.Op1{Op: op, X: x}.Expr()
	}
	return value{x: x, t: to}
}

func promoted(v value) value { return turned(v, ctype.Promote(v.t)) }

// assigned is a value as it is assigned to a type, if it can be.
func assigned(v value, to api.Type) (api.Expr, bool) {
	switch {
	case isArithmetic(v.t) && isArithmetic(to):
		return turned(v, to).x, true
	case isPointer(to) && v.zero:
		return longNum(0), true
	case isPointer(to) && isPointer(v.t):
		return v.x, ctype.Same(v.t, to) || isVoidPointer(v.t) || isVoidPointer(to)
	}
	return api.Expr{}, false
}

// matched is two values as ones of the one type that both may have, if there is one.
func matched(x, y value) (value, value, bool) {
	if c, ok := ctype.Common(x.t, y.t); ok {
		return turned(x, c), turned(y, c), true
	}
	switch {
	case isPointer(x.t) && y.zero:
		return x, value{x: longNum(0), t: x.t}, true
	case x.zero && isPointer(y.t):
		return value{x: longNum(0), t: y.t}, y, true
	case !isPointer(x.t) || !isPointer(y.t):
		return value{}, value{}, false
	case ctype.Same(x.t, y.t) || isVoidPointer(x.t):
		return x, value{x: y.x, t: x.t}, true
	case isVoidPointer(y.t):
		return value{x: x.x, t: y.t}, y, true
	}
	return value{}, value{}, false
}
