package check_test

import (
	"cmp"
	"fmt"
	"reflect"
	"slices"
	"strings"
	"testing"

	"alembic/api"
	"alembic/mach"
)

// judge looks whether a unit is right Core; what isn't, it puts into faults.
type judge struct {
	sigs    map[string]api.Sig // of the functions, from outside or not
	vars    map[string]bool
	faults  []string
	f       api.Func
	labels  map[string]int // how often each stands there
	gotos   []string
	loops   int
	leaving int // loops and switches that are around
	inNew   bool
	old     int // the kinds of Old and Arg within a New
	arg     int
}

func (j *judge) wrong(format string, args ...any) {
	j.faults = append(j.faults, j.f.Name+": "+fmt.Sprintf(format, args...))
}

func (j *judge) need(holds bool, format string, args ...any) {
	if !holds {
		j.wrong(format, args...)
	}
}

// checkRight asks whether a text's unit is right Core, and whether no two lists of it share memory.
func checkRight(t *testing.T, text string, u api.Unit) {
	t.Helper()
	for _, fault := range faultsOf(u) {
		t.Errorf("%s\n%s", tail(text), fault)
	}
	if s := sharing(u); s != "" {
		t.Errorf("%s\n%s", tail(text), s)
	}
}

// faultsOf tells what isn't right Core in a unit.
func faultsOf(u api.Unit) []string {
	j := &judge{sigs: map[string]api.Sig{}, vars: map[string]bool{}}
	for _, v := range u.Vars {
		j.need(!j.vars[v.Name], "var %s twice", v.Name)
		j.vars[v.Name] = true
	}
	for _, e := range u.Externs {
		j.name(e.Name, e.Sig)
	}
	for _, f := range u.Funcs {
		j.name(f.Name, f.Sig)
	}
	for _, v := range u.Vars {
		j.variable(v)
	}
	for _, f := range u.Funcs {
		j.function(f)
	}
	return j.faults
}

func (j *judge) name(name string, s api.Sig) {
	_, twice := j.sigs[name]
	j.need(!twice && !j.vars[name], "%s twice", name)
	j.sigs[name] = s
}

func (j *judge) variable(v api.Var) {
	j.need(v.Fixed == strings.HasPrefix(v.Name, ".s"), "%s: Fixed %v", v.Name, v.Fixed)
	j.need(v.Size > 0 && slices.Contains([]int{1, 2, 4, 8}, v.Align) && v.Size%v.Align == 0, "%s: %d/%d", v.Name, v.Size, v.Align)
	end := 0
	for _, d := range v.Init {
		size := mach.Size(d.Chunk)
		j.need(size > 0 && d.At >= end && d.At%size == 0 && d.At+size <= v.Size && d.Off == 0, "%s: %+v", v.Name, d)
		end = d.At + size
		if d.Sym != "" {
			_, ok := j.sigs[d.Sym]
			j.need((ok || j.vars[d.Sym]) && d.Chunk == api.C64 && d.V == (api.Value{}), "%s: %+v", v.Name, d)
		} else {
			j.need(mach.Right(d.V) && d.V.Kind == mach.Kind(d.Chunk), "%s: %+v", v.Name, d)
		}
	}
}

func (j *judge) function(f api.Func) {
	j.f, j.labels, j.gotos = f, map[string]int{}, nil
	j.need(len(f.Params) == len(f.Sig.Params) && f.Temps == 0 && f.Frame == 0, "%+v", f)
	for i, p := range f.Params {
		j.need(p == i && p < len(f.Locals) && mach.Kind(f.Locals[p].Chunk) == f.Sig.Params[i], "parameter %d is %d", i, p)
	}
	for i, l := range f.Locals {
		j.need(l.Size > 0 && l.Align > 0 && l.Size%l.Align == 0 && (l.Chunk == 0 || mach.Size(l.Chunk) == l.Size), "local %d: %+v", i, l)
	}
	j.list(f.Body)
	for _, g := range j.gotos {
		j.need(j.labels[g] == 1, "label %s: %d times", g, j.labels[g])
	}
}

func (j *judge) list(list []api.Stmt) {
	for _, s := range list {
		j.statement(s)
	}
}

func (j *judge) statement(s api.Stmt) {
	form, ok := s.View().(interface{ Stmt() api.Stmt })
	if !ok || !reflect.DeepEqual(bareStmt(form.Stmt()), bareStmt(s)) {
		j.wrong("%+v is no form", s)
		return
	}
	switch x := s.View().(type) {
	case api.Do:
		j.kind(x.X)
	case api.If:
		j.value(x.X)
		j.list(x.Then)
		j.list(x.Else)
	case api.Loop:
		if !x.Test.None() {
			j.value(x.Test)
		}
		j.loops++
		j.leaving++
		j.list(x.Body)
		j.loops--
		j.leaving--
		for _, s := range x.Step {
			_, ok := s.View().(api.Do)
			j.need(ok, "a step is %s", stmtText(s))
			j.statement(s)
		}
	case api.Switch:
		j.choice(x)
	case api.Break:
		j.need(j.leaving > 0, "break")
	case api.Continue:
		j.need(j.loops > 0, "continue")
	case api.Goto:
		j.gotos = append(j.gotos, x.Name)
	case api.Label:
		j.labels[x.Name]++
	case api.Return:
		if x.X.None() {
			j.need(j.f.Sig.Result == 0, "return without a value")
		} else {
			j.need(j.kind(x.X) == j.f.Sig.Result, "%s", stmtText(s))
		}
	case api.Block:
		j.list(x.List)
	default:
		j.wrong("%+v isn't of Core", s)
	}
}

func (j *judge) choice(x api.Switch) {
	kind := j.value(x.X)
	j.need(kind == api.Int && !x.Long || kind == api.Long && x.Long, "switch over %s", exprText(x.X))
	j.leaving++
	var seen []api.Item
	for _, i := range x.Items {
		if !i.S.None() {
			j.need(!i.Case && !i.Default && i.Value == 0, "%+v", i)
			j.statement(i.S)
			continue
		}
		j.need(i.Case != i.Default && (i.Case || i.Value == 0) && (x.Long || i.Value < 1<<32), "%+v", i)
		for _, other := range seen {
			j.need(i.Case != other.Case || i.Value != other.Value, "%s twice", itemText(i))
		}
		seen = append(seen, i)
	}
	j.leaving--
}

// value is the kind of an expression that must have one.
func (j *judge) value(e api.Expr) int {
	k := j.kind(e)
	j.need(k != 0, "%s has no value", exprText(e))
	return k
}

// address asks whether an expression is one; addresses count as Longs.
func (j *judge) address(e api.Expr) {
	j.need(j.kind(e) == api.Long, "%s is no address", exprText(e))
}

// kind is the kind of an expression's value, 0 of one without.
func (j *judge) kind(e api.Expr) int {
	form, ok := e.View().(interface{ Expr() api.Expr })
	if !ok || !reflect.DeepEqual(bareExpr(form.Expr()), bareExpr(e)) {
		j.wrong("%+v is no form", e)
		return 0
	}
	switch x := e.View().(type) {
	case api.Num:
		j.need(mach.Right(x.V) && x.V.Kind != api.Undef && x.V.Kind != api.Ptr, "%+v", x.V)
		return x.V.Kind
	case api.Local:
		j.need(x.N >= 0 && x.N < len(j.f.Locals), "local %d", x.N)
		return api.Long
	case api.Global:
		_, ok := j.sigs[x.Name]
		j.need(ok || j.vars[x.Name], "no %s", x.Name)
		return api.Long
	case api.Load:
		j.address(x.Addr)
		j.need(mach.Kind(x.Chunk) != 0 && x.Off == 0, "%s", exprText(e))
		return mach.Kind(x.Chunk)
	case api.Op1:
		return j.op1(x)
	case api.Op2:
		a, b, r := mach.Shape(x.Op)
		k, l := j.value(x.X), j.value(x.Y)
		j.need(b != 0 && k == a && l == b, "%s of the kinds %d, %d", exprText(e), k, l)
		return r
	case api.Assign:
		j.address(x.Addr)
		k := j.value(x.X)
		j.need(k == mach.Kind(x.Chunk), "%s", exprText(e))
		return k
	case api.Modify:
		return j.modify(x)
	case api.Old:
		j.need(j.inNew, "old")
		return j.old
	case api.Arg:
		j.need(j.inNew, "arg")
		return j.arg
	case api.Cond:
		j.value(x.X)
		k := j.kind(x.Y)
		if k != j.kind(x.Z) {
			return 0 // of no value, for what it does alone
		}
		return k
	case api.And:
		j.value(x.X)
		j.value(x.Y)
		return api.Int
	case api.Or:
		j.value(x.X)
		j.value(x.Y)
		return api.Int
	case api.Comma:
		j.kind(x.X)
		return j.kind(x.Y)
	case api.Call:
		return j.call(x)
	}
	j.wrong("%s isn't of Core", exprText(e))
	return 0
}

func (j *judge) op1(x api.Op1) int {
	a, b, r := mach.Shape(x.Op)
	k := j.value(x.X)
	any := x.Op == api.OpTruth || x.Op == api.OpFalse
	j.need(b == 0 && (k == a || any), "%s of the kind %d", exprText(x.Expr()), k)
	return r
}

func (j *judge) modify(x api.Modify) int {
	j.address(x.Addr)
	k, arg := mach.Kind(x.Chunk), j.value(x.Y)
	j.need(k != 0 && !j.inNew, "%s", exprText(x.Expr()))
	j.inNew, j.old, j.arg = true, k, arg
	j.need(j.value(x.New) == k, "%s", exprText(x.Expr()))
	j.inNew = false
	return k
}

func (j *judge) call(x api.Call) int {
	j.address(x.F)
	j.need(len(x.Args) == len(x.Sig.Params), "%s", exprText(x.Expr()))
	for i, a := range x.Args {
		k := j.value(a)
		j.need(i < len(x.Sig.Params) && k == x.Sig.Params[i], "%s: argument %d", exprText(x.Expr()), i)
	}
	return x.Sig.Result
}

// bareExpr is an expression without its parts, but for how many there are.
func bareExpr(e api.Expr) any {
	params, kids := slices.Concat([]int{0}, e.Sig.Params), len(e.Kids)
	e.Sig.Params, e.Kids = nil, nil
	return []any{e, params, kids}
}

// bareStmt is a statement likewise.
func bareStmt(s api.Stmt) any {
	params := slices.Concat([]int{0}, s.Sig.Params)
	parts := []int{len(s.X), len(s.One), len(s.Two), len(s.Items)}
	s.Sig.Params, s.X, s.One, s.Two, s.Items = nil, nil, nil, nil, nil
	return []any{s, params, parts}
}

// span is the memory of a list, its spare room too.
type span struct {
	from, to uintptr
	what     string
}

// sharing tells which lists of a unit share memory; nothing, if none do.
func sharing(u api.Unit) string {
	spans := spansOf(reflect.ValueOf(u), "unit", nil)
	slices.SortFunc(spans, func(a, b span) int { return cmp.Compare(a.from, b.from) })
	for i := 1; i < len(spans); i++ {
		if spans[i].from < spans[i-1].to {
			return spans[i].what + " and " + spans[i-1].what + " share memory"
		}
	}
	return ""
}

func spansOf(v reflect.Value, what string, spans []span) []span {
	switch v.Kind() {
	case reflect.Slice:
		if n := uintptr(v.Cap()) * v.Type().Elem().Size(); n > 0 {
			spans = append(spans, span{from: v.Pointer(), to: v.Pointer() + n, what: what})
		}
		for i := range v.Len() {
			spans = spansOf(v.Index(i), what, spans)
		}
	case reflect.Struct:
		for i := range v.NumField() {
			spans = spansOf(v.Field(i), what+"."+v.Type().Field(i).Name, spans)
		}
	}
	return spans
}
