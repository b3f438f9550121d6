package passes

import (
	"fmt"
	"reflect"
	"slices"

	"alembic/api"
	"alembic/mach"
)

// The languages that a judge knows.
const (
	light = iota
	minor
	sel
)

// judge looks whether a unit is right Light, Minor or Sel; what isn't, it puts into faults.
type judge struct {
	language int
	target   int // of Sel
	names    map[string]bool
	faults   []string
	f        api.Func
	labels   map[string]int // how often each stands there
	gotos    []string
	loops    int // in whose body this stands
	leaving  int // loops and switches that are around
}

// whatever is the kind of a value that may be of any.
const whatever = -1

// named is an expression or a statement, which is written only if it is told.
type named struct {
	expr api.Expr
	stmt api.Stmt
}

func (n named) String() string {
	if n.stmt.None() {
		return exprText(n.expr)
	}
	return stmtText(n.stmt)
}

func (j *judge) need(holds bool, format string, args ...any) {
	if !holds {
		j.faults = append(j.faults, j.f.Name+": "+fmt.Sprintf(format, args...))
	}
}

// faultsOf tells what isn't right in a unit of Light or Minor.
func faultsOf(language int, u api.Unit) []string {
	return (&judge{language: language, names: map[string]bool{}}).unit(u)
}

// selFaultsOf tells what isn't right in a unit of Sel, and what could be an operation with a number or an offset, and isn't.
func selFaultsOf(target int, u api.Unit) []string {
	return (&judge{language: sel, target: target, names: map[string]bool{}}).unit(u)
}

func (j *judge) unit(u api.Unit) []string {
	for _, v := range u.Vars {
		j.names[v.Name] = true
	}
	for _, e := range u.Externs {
		j.names[e.Name] = true
	}
	for _, f := range u.Funcs {
		j.names[f.Name] = true
	}
	for _, f := range u.Funcs {
		j.function(f)
	}
	return j.faults
}

func (j *judge) function(f api.Func) {
	j.f, j.labels, j.gotos = f, map[string]int{}, nil
	j.need(f.Temps >= 0, "%d temporaries", f.Temps)
	if j.language == light {
		j.need(f.Frame == 0, "%d bytes", f.Frame)
	} else {
		j.need(f.Frame >= 0 && f.Frame%8 == 0 && len(f.Locals) == 0, "%d bytes, locals %v", f.Frame, f.Locals)
	}
	j.need(len(f.Params) == len(f.Sig.Params), "%d parameters", len(f.Params))
	for i, p := range f.Params {
		j.need(!slices.Contains(f.Params[:i], p), "parameter %d twice", p)
		j.param(p)
	}
	j.list(f.Body)
	for _, g := range j.gotos {
		j.need(j.labels[g] == 1, "label %s: %d times", g, j.labels[g])
	}
	for name, n := range j.labels {
		j.need(n == 1, "label %s: %d times", name, n)
	}
}

func (j *judge) param(p int) {
	if p < 0 {
		j.temp(-1 - p)
		return
	}
	j.need(j.language == light && p < len(j.f.Locals), "parameter %d", p)
}

func (j *judge) list(list []api.Stmt) {
	for _, s := range list {
		j.statement(s)
	}
}

func (j *judge) statement(s api.Stmt) {
	form, ok := s.View().(interface{ Stmt() api.Stmt })
	if !ok || !reflect.DeepEqual(bareStmt(form.Stmt()), bareStmt(s)) {
		j.need(false, "%+v is no form", s)
		return
	}
	switch x := s.View().(type) {
	case api.Set:
		j.temp(x.N)
		j.kind(x.X)
	case api.Put:
		j.access(x.Chunk, x.Addr, x.Off, named{stmt: s})
		j.is(x.X, mach.Kind(x.Chunk))
	case api.Invoke:
		j.invoke(x)
	case api.Return:
		j.need(x.X.None() == (j.f.Sig.Result == 0), "%v", named{stmt: s})
		if !x.X.None() {
			j.is(x.X, j.f.Sig.Result)
		}
	case api.Block:
		j.list(x.List)
	default:
		j.flow(s)
	}
}

func (j *judge) flow(s api.Stmt) {
	switch x := s.View().(type) {
	case api.If:
		j.kind(x.X)
		j.list(x.Then)
		j.list(x.Else)
	case api.Loop:
		if !x.Test.None() {
			j.kind(x.Test)
		}
		j.leaving++
		j.loops++
		j.list(x.Body)
		j.loops--
		outer := j.loops
		j.loops = 0
		j.list(x.Step)
		j.loops = outer
		j.leaving--
	case api.Switch:
		j.choice(x)
	case api.Break:
		j.need(j.leaving > 0, "break")
	case api.Continue:
		j.need(j.loops > 0, "continue")
	case api.Goto:
		j.gotos = append(j.gotos, x.Name)
	case api.Label:
		j.labels[x.Name]++
	default:
		j.need(false, "%+v isn't of the language", s)
	}
}

func (j *judge) choice(x api.Switch) {
	j.need(j.language != sel, "a switch")
	kind := map[bool]int{false: api.Int, true: api.Long}[x.Long]
	j.is(x.X, kind)
	j.leaving++
	for _, i := range x.Items {
		j.need(!i.Case || !i.Default, "%+v", i)
		j.need(i.Value == 0 || i.Case, "%+v", i)
		if i.S.None() {
			j.need(i.Case || i.Default, "%+v", i)
		} else {
			j.statement(i.S)
		}
	}
	j.leaving--
}

func (j *judge) temp(n int) {
	j.need(n >= 0 && n < j.f.Temps, "temporary %d", n)
}

func (j *judge) invoke(x api.Invoke) {
	j.is(x.F, api.Long)
	if x.N != -1 {
		j.temp(x.N)
		j.need(x.Sig.Result != 0, "%v", named{stmt: x.Stmt()})
	}
	j.need(len(x.Args) == len(x.Sig.Params), "%v", named{stmt: x.Stmt()})
	for i, a := range x.Args {
		if i < len(x.Sig.Params) {
			j.is(a, x.Sig.Params[i])
		}
	}
}

// access asks whether a chunk can be loaded or stored at an address, so many bytes behind it.
func (j *judge) access(chunk int, at api.Expr, off int, where named) {
	j.is(at, api.Long)
	j.need(mach.Kind(chunk) != 0, "%v", where)
	if j.language != sel {
		j.need(off == 0, "%v", where)
		return
	}
	j.need(fits(j.target, int64(off)), "%v", where)
	_, more := asOffset(j.target, at, off)
	j.need(more == off, "%v could have the offset %d", where, more)
}

// is asks whether an expression is of a kind.
func (j *judge) is(e api.Expr, kind int) {
	k := j.kind(e)
	j.need(k == whatever || kind == whatever || k == kind, "%v is of the kind %d, not %d", named{expr: e}, k, kind)
}

// kind is the kind of an expression's value; addresses count as Longs.
func (j *judge) kind(e api.Expr) int {
	form, ok := e.View().(interface{ Expr() api.Expr })
	if !ok || !reflect.DeepEqual(bareExpr(form.Expr()), bareExpr(e)) {
		j.need(false, "%+v is no form", e)
		return whatever
	}
	switch x := e.View().(type) {
	case api.Num:
		j.need(mach.Right(x.V) && x.V.Kind != api.Undef && x.V.Kind != api.Ptr, "%+v", x.V)
		return x.V.Kind
	case api.Temp:
		j.temp(x.N)
		return whatever
	case api.Local:
		j.need(j.language == light && x.N >= 0 && x.N < len(j.f.Locals), "local %d", x.N)
		return api.Long
	case api.Frame:
		j.need(j.language != light && x.Off >= 0 && x.Off <= j.f.Frame, "%d in the frame", x.Off)
		return api.Long
	case api.Global:
		j.need(j.names[x.Name], "no %s", x.Name)
		return api.Long
	case api.Load:
		j.access(x.Chunk, x.Addr, x.Off, named{expr: e})
		return mach.Kind(x.Chunk)
	case api.Op1:
		return j.operation(e, x.Op, x.X)
	case api.Op2:
		_, could := asNumber(j.target, x)
		j.need(j.language != sel || !could, "%v could be with a number", named{expr: e})
		return j.operation(e, x.Op, x.X, x.Y)
	case api.OpI:
		j.need(j.language == sel && mayHave(j.target, x.Op, x.N), "%v", named{expr: e})
		kind, _, r := mach.Shape(x.Op)
		j.is(x.X, kind)
		return r
	}
	j.need(false, "%+v isn't of the language", e)
	return whatever
}

// operation is the kind of an operation's result.
func (j *judge) operation(e api.Expr, op int, parts ...api.Expr) int {
	a, b, r := mach.Shape(op)
	if op == api.OpTruth || op == api.OpFalse {
		a = whatever
	}
	j.need(a != 0 && (b != 0) == (len(parts) == 2), "%v", named{expr: e})
	for i, x := range parts {
		j.is(x, []int{a, b}[i])
	}
	return r
}

// bareExpr is an expression without its parts, but for how many there are.
func bareExpr(e api.Expr) any {
	params, kids := slices.Concat([]int{0}, e.Sig.Params), len(e.Kids)
	e.Sig.Params, e.Kids = nil, nil
	return []any{e, params, kids}
}

// bareStmt is a statement likewise.
func bareStmt(s api.Stmt) any {
	params := slices.Concat([]int{0}, s.Sig.Params)
	parts := []int{len(s.X), len(s.One), len(s.Two), len(s.Items)}
	s.Sig.Params, s.X, s.One, s.Two, s.Items = nil, nil, nil, nil, nil
	return []any{s, params, parts}
}
