package graph

import (
	"slices"

	"alembic/api"
	"alembic/mach"
)

// part is an expression whose value, of a kind, something asks for.
type part struct {
	x    api.Expr
	kind int
}

// with writes an instruction, and ahead of it what works its Args out.
func (w *writer) with(i api.Instr, parts ...part) int {
	for _, p := range parts {
		i.Args = append(i.Args, w.where(w.variable(p.x), p.kind))
	}
	next := w.add(i)
	for n, p := range slices.Backward(parts) {
		next = w.worked(p, i.Args[n], next)
	}
	return next
}

// variable is where a temporary's value stands; that of another expression stands nowhere yet.
func (w *writer) variable(e api.Expr) variable {
	if t, ok := e.View().(api.Temp); ok {
		return w.temps[t.N]
	}
	return variable{}
}

// worked works a part out. If it is of another kind than is asked for, the register stays undefined: this is worked out only as it may have no meaning.
func (w *writer) worked(p part, at, next int) int {
	k := kind(p.x)
	if k == 0 {
		return next
	}
	if k != p.kind {
		at = w.register(k)
	}
	return w.expr(p.x, at, next)
}

// expr sets a register to the value of an expression that is no temporary.
func (w *writer) expr(e api.Expr, to, next int) int {
	i := api.Instr{Kind: api.IOp, Dst: to, Next: next}
	switch x := e.View().(type) {
	case api.Num:
		return w.number(x.V, to, next)
	case api.Global:
		i.Op, i.Sym = api.OpGlobal, x.Name
		return w.add(i)
	case api.Frame:
		i.Op, i.Off = api.OpFrame, x.Off
		return w.add(i)
	case api.Load:
		i.Kind, i.Chunk, i.Off = api.ILoad, x.Chunk, x.Off
		return w.with(i, part{x.Addr, api.Long})
	case api.Op1:
		return w.one(x, to, next)
	case api.Op2:
		a, b, _ := mach.Shape(x.Op)
		i.Op = x.Op
		return w.with(i, part{x.X, a}, part{x.Y, b})
	case api.OpI:
		a, _, _ := mach.Shape(x.Op)
		i.Op, i.N = x.Op+api.WithN, x.N
		return w.with(i, part{x.X, a})
	}
	return next
}

// one is an operation of one. Whether a temporary is true that may be of several kinds is asked by its kind.
func (w *writer) one(x api.Op1, to, next int) int {
	kinds := w.kinds(x.X)
	if !isTruth(x.Op) || len(kinds) == 0 {
		shape, _, _ := mach.Shape(x.Op)
		kinds = []int{shape}
	}
	begin := w.oneOf(x, kinds[0], to, next)
	for _, k := range kinds[1:] {
		is := w.register(api.Int)
		begin = w.add(api.Instr{Kind: api.ICond, Args: []int{is}, Next: w.oneOf(x, k, to, next), Else: begin})
		begin = w.add(api.Instr{Kind: api.IOp, Op: api.OpEq + api.WithN, N: int64(k), Args: []int{w.variable(x.X).which}, Dst: is, Next: begin})
	}
	return begin
}

// kinds are those of which an expression's value may be.
func (w *writer) kinds(e api.Expr) []int {
	if k := kind(e); k != 0 {
		return []int{k}
	}
	return w.variable(e).kinds
}

func isTruth(op int) bool { return op == api.OpTruth || op == api.OpFalse }

// oneOf is an operation of one of a value of a kind. RTL asks by a comparison whether a Double is true.
func (w *writer) oneOf(x api.Op1, kind, to, next int) int {
	i := api.Instr{Kind: api.IOp, Op: x.Op, Dst: to, Next: next}
	if kind != api.Double || !isTruth(x.Op) {
		return w.with(i, part{x.X, kind})
	}
	i.Op = api.OpNeD
	if x.Op == api.OpFalse {
		i.Op = api.OpEqD
	}
	return w.with(i, part{x.X, kind}, part{api.Num{V: mach.DoubleOf(0)}.Expr(), kind})
}
