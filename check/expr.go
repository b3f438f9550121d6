package check

import (
	"strings"

	"alembic/api"
	"alembic/ctype"
	"alembic/mach"
)

// expr is what an expression comes to.
func (b *body) expr(t api.Tree) result {
	switch x := t.View().(type) {
	case api.TNum, api.TFloat:
		v, of, _ := literal(t)
		return value{x: num(v), t: of, zero: isZero(t)}
	case api.TText:
		of := api.Array{Of: charType(), Len: len(x.Data) + 1}
		return place{addr: api.Global{Name: b.unit.text(x.Data)}.Expr(), t: of.Type()}
	case api.TName:
		return b.named(x)
	case api.TUnary:
		return b.unary(x)
	case api.TPost:
		return b.step(x.At, x.Op, x.X, true)
	case api.TBinary:
		return b.binary(x)
	case api.TAssign:
		return b.assign(x)
	case api.TCond:
		return b.cond(x)
	case api.TCall:
		return b.call(x)
	case api.TIndex:
		return pointed(x.At, b.sum(x.At, "+", b.value(x.X), b.value(x.Y)))
	case api.TMember:
		return b.member(x)
	case api.TCast:
		return b.cast(x)
	case api.TSizeType:
		return b.sizeOf(x.At, x.Of)
	case api.TSizeOf:
		return b.sizeOf(x.At, typeOf(b.expr(x.X)))
	}
	fail(t.At, api.ErrSyntax)
	return nil
}

// value is the value of an expression, which must have one.
func (b *body) value(t api.Tree) value { return valueOf(t, b.expr(t)) }

func (b *body) unary(t api.TUnary) result {
	switch t.Op {
	case "++", "--":
		return b.step(t.At, t.Op, t.X, false)
	case "&":
		return addressOf(t.At, b.expr(t.X))
	case "*":
		return pointed(t.At, b.value(t.X))
	}
	x := b.value(t.X)
	if t.Op == "!" {
		require(isScalar(x.t), t.At, api.ErrType)
		return value{x: api.Op1{Op: api.OpFalse, X: x.x}.Expr(), t: intType()}
	}
	require(isWhole(x.t) || t.Op == "-" && isArithmetic(x.t), t.At, api.ErrType)
	x = promoted(x)
	return value{x: api.Op1{Op: operation1(t.Op, x.t), X: x.x}.Expr(), t: x.t}
}

// addressOf is the address of a place or a function.
func addressOf(at api.Place, r result) result {
	switch x := r.(type) {
	case place:
		return value{x: x.addr, t: pointerTo(x.t)}
	case function:
		return value{x: x.addr, t: pointerTo(x.t)}
	}
	fail(at, api.ErrType)
	return nil
}

// pointed is what a value points to.
func pointed(at api.Place, v value) result {
	to, ok := pointee(v.t)
	require(ok && !isVoid(to), at, api.ErrType)
	if _, ok := to.View().(api.Function); ok {
		return function{addr: v.x, t: to}
	}
	return place{addr: v.x, t: to}
}

// scalarPlace is a result that must be a place of a scalar.
func scalarPlace(at api.Place, r result) place {
	p, ok := r.(place)
	require(ok && isScalar(p.t), at, api.ErrType)
	return p
}

// step is ++ or --, ahead of an expression or behind it.
func (b *body) step(at api.Place, op string, t api.Tree, back bool) result {
	p := scalarPlace(at, b.expr(t))
	sign := op[:1]
	if to, ok := pointee(p.t); ok {
		return modified(p, longNum(b.unit.sizeAt(at, to)), sign, p.t, back)
	}
	one := value{x: num(mach.IntOf(1)), t: intType()}
	c, _ := ctype.Common(p.t, one.t) // both are arithmetic
	return modified(p, turned(one, c).x, sign, c, back)
}

// modified is what stands at a place, changed by an operation with y that is done in a type.
func modified(p place, y api.Expr, sign string, in api.Type, back bool) value {
	old := turned(value{x: api.Old{}.Expr(), t: p.t}, in)
	done := value{x: op2(operation(sign, in), old.x, api.Arg{}.Expr()), t: in}
	m := api.Modify{Chunk: ctype.Chunk(p.t), Addr: p.addr, Y: y, New: turned(done, p.t).x, Back: back}
	return value{x: m.Expr(), t: p.t}
}

// assign is = or an operation with it.
func (b *body) assign(t api.TAssign) result {
	r, y := b.expr(t.X), b.value(t.Y)
	p := scalarPlace(t.At, r)
	sign := strings.TrimSuffix(t.Op, "=")
	to, isPointer := pointee(p.t)
	switch {
	case sign == "":
		x, ok := assigned(y, p.t)
		require(ok, t.At, api.ErrType)
		return value{x: api.Assign{Chunk: ctype.Chunk(p.t), Addr: p.addr, X: x}.Expr(), t: p.t}
	case isPointer:
		require(sign == "+" || sign == "-", t.At, api.ErrType)
		return modified(p, b.scaled(t.At, y, to), sign, p.t, false)
	}
	c, ok := typeFor(sign, p.t, y.t)
	require(ok, t.At, api.ErrType)
	return modified(p, second(sign, y, c), sign, c, false)
}

func (b *body) cond(t api.TCond) result {
	x := b.test(t.X)
	first, other := b.expr(t.Y), b.expr(t.Z)
	if y, ok := first.(nothing); ok {
		if z, ok := other.(nothing); ok {
			return nothing{x: api.Cond{X: x, Y: y.x, Z: z.x}.Expr()}
		}
	}
	y, z, ok := matched(valueOf(t.Y, first), valueOf(t.Z, other))
	require(ok, t.At, api.ErrType)
	return value{x: api.Cond{X: x, Y: y.x, Z: z.x}.Expr(), t: y.t}
}

func (b *body) call(t api.TCall) result {
	r := b.expr(t.F)
	var args []value
	for _, a := range t.Args {
		args = append(args, b.value(a))
	}
	f := valueOf(t.F, r)
	to, _ := pointee(f.t)
	of, ok := to.View().(api.Function)
	require(ok && len(args) == len(of.Params), t.At, api.ErrType)
	c := api.Call{F: f.x, Sig: sigOf(of)}
	for i, a := range args {
		x, ok := assigned(a, of.Params[i])
		require(ok, t.Args[i].At, api.ErrType)
		c.Args = append(c.Args, x)
	}
	if isVoid(of.Result) {
		return nothing{x: c.Expr()}
	}
	return value{x: c.Expr(), t: of.Result}
}

func (b *body) member(t api.TMember) result {
	r := b.expr(t.X)
	if t.Arrow {
		v := valueOf(t.X, r)
		to, ok := pointee(v.t)
		require(ok, t.At, api.ErrType)
		r = place{addr: v.x, t: to}
	}
	p, _ := r.(place)
	record, ok := p.t.View().(api.Record)
	_, align := b.unit.size(p.t)
	require(ok && align != 0, t.At, api.ErrType)
	f, ok := b.unit.members[member{record.Name, t.Name}]
	require(ok, t.At, api.ErrName)
	if f.Off != 0 {
		p.addr = op2(api.OpAdd+api.OfLong, p.addr, longNum(f.Off))
	}
	return place{addr: p.addr, t: f.Type}
}

func (b *body) cast(t api.TCast) result {
	r := b.expr(t.X)
	if isVoid(t.To) {
		return nothing{x: effectOf(t.X, r)}
	}
	v := valueOf(t.X, r)
	if v.zero && isPointer(t.To) {
		return value{x: longNum(0), t: t.To}
	}
	_, ok := ctype.Ops(v.t, t.To)
	require(ok, t.At, api.ErrType)
	return turned(v, t.To)
}

// sizeOf is the size of a type as a number.
func (b *body) sizeOf(at api.Place, of api.Type) result {
	return value{x: longNum(b.unit.sizeAt(at, of)), t: unsignedLong()}
}

// typeOf is the type of a value, or of what stands at a place; none of any other result.
func typeOf(r result) api.Type {
	switch x := r.(type) {
	case value:
		return x.t
	case place:
		return x.t
	}
	return api.Type{}
}
