package simpl_test

import (
	"cmp"
	"fmt"
	"reflect"
	"slices"
	"testing"

	"alembic/api"
	"alembic/mach"
	"alembic/simpl"
)

// judge looks whether a unit is right Light; what isn't, it puts into faults.
type judge struct {
	names   map[string]bool
	faults  []string
	f       api.Func
	labels  map[string]int // how often each stands there
	gotos   []string
	loops   int // in whose body this stands
	leaving int // loops and switches that are around
	set     map[int]bool
}

// whatever is the kind of a value that may be of any.
const whatever = -1

func (j *judge) need(holds bool, format string, args ...any) {
	if !holds {
		j.faults = append(j.faults, j.f.Name+": "+fmt.Sprintf(format, args...))
	}
}

// faultsOf tells what isn't right Light in a unit.
func faultsOf(u api.Unit) []string {
	j := &judge{names: map[string]bool{}}
	for _, v := range u.Vars {
		j.names[v.Name] = true
	}
	for _, e := range u.Externs {
		j.names[e.Name] = true
	}
	for _, f := range u.Funcs {
		j.names[f.Name] = true
	}
	for _, f := range u.Funcs {
		j.function(f)
	}
	return j.faults
}

func (j *judge) function(f api.Func) {
	j.f, j.labels, j.gotos, j.set = f, map[string]int{}, nil, map[int]bool{}
	j.need(f.Frame == 0 && f.Temps >= 0, "%d bytes, %d temporaries", f.Frame, f.Temps)
	j.list(f.Body)
	for _, g := range j.gotos {
		j.need(j.labels[g] == 1, "label %s: %d times", g, j.labels[g])
	}
	for name, n := range j.labels {
		j.need(n == 1, "label %s: %d times", name, n)
	}
	j.need(len(j.set) == f.Temps, "of %d temporaries %d are set", f.Temps, len(j.set))
}

func (j *judge) list(list []api.Stmt) {
	for _, s := range list {
		j.statement(s)
	}
}

func (j *judge) statement(s api.Stmt) {
	form, ok := s.View().(interface{ Stmt() api.Stmt })
	if !ok || !reflect.DeepEqual(bareStmt(form.Stmt()), bareStmt(s)) {
		j.need(false, "%+v is no form", s)
		return
	}
	switch x := s.View().(type) {
	case api.Set:
		j.temp(x.N)
		j.set[x.N] = true
		j.kind(x.X)
	case api.Put:
		j.is(x.Addr, api.Long)
		j.need(mach.Kind(x.Chunk) != 0 && x.Off == 0, "%s", stmtText(s))
		j.is(x.X, mach.Kind(x.Chunk))
	case api.Invoke:
		j.invoke(x)
	case api.Return:
		j.need(x.X.None() == (j.f.Sig.Result == 0), "%s", stmtText(s))
		if !x.X.None() {
			j.is(x.X, j.f.Sig.Result)
		}
	case api.Block:
		j.list(x.List)
	default:
		j.flow(s)
	}
}

func (j *judge) flow(s api.Stmt) {
	switch x := s.View().(type) {
	case api.If:
		j.kind(x.X)
		j.list(x.Then)
		j.list(x.Else)
	case api.Loop:
		if !x.Test.None() {
			j.kind(x.Test)
		}
		j.leaving++
		j.loops++
		j.list(x.Body)
		j.loops--
		outer := j.loops
		j.loops = 0
		j.list(x.Step)
		j.loops = outer
		j.leaving--
	case api.Switch:
		j.choice(x)
	case api.Break:
		j.need(j.leaving > 0, "break")
	case api.Continue:
		j.need(j.loops > 0, "continue")
	case api.Goto:
		j.gotos = append(j.gotos, x.Name)
	case api.Label:
		j.labels[x.Name]++
	default:
		j.need(false, "%+v isn't of Light", s)
	}
}

func (j *judge) choice(x api.Switch) {
	kind := map[bool]int{false: api.Int, true: api.Long}[x.Long]
	j.is(x.X, kind)
	j.leaving++
	for _, i := range x.Items {
		j.need(!i.Case || !i.Default, "%+v", i)
		j.need(i.Value == 0 || i.Case, "%+v", i)
		if i.S.None() {
			j.need(i.Case || i.Default, "%+v", i)
		} else {
			j.statement(i.S)
		}
	}
	j.leaving--
}

func (j *judge) temp(n int) {
	j.need(n >= 0 && n < j.f.Temps, "temporary %d", n)
}

func (j *judge) invoke(x api.Invoke) {
	j.is(x.F, api.Long)
	if x.N != -1 {
		j.temp(x.N)
		j.set[x.N] = true
		j.need(x.Sig.Result != 0, "%s", stmtText(x.Stmt()))
	}
	j.need(len(x.Args) == len(x.Sig.Params), "%s", stmtText(x.Stmt()))
	for i, a := range x.Args {
		if i < len(x.Sig.Params) {
			j.is(a, x.Sig.Params[i])
		}
	}
}

// is asks whether an expression is of a kind.
func (j *judge) is(e api.Expr, kind int) {
	k := j.kind(e)
	j.need(k == whatever || kind == whatever || k == kind, "%s is of the kind %d, not %d", lightText(e), k, kind)
}

// kind is the kind of an expression's value; addresses count as Longs.
func (j *judge) kind(e api.Expr) int {
	form, ok := e.View().(interface{ Expr() api.Expr })
	if !ok || !reflect.DeepEqual(bareExpr(form.Expr()), bareExpr(e)) {
		j.need(false, "%+v is no form", e)
		return whatever
	}
	switch x := e.View().(type) {
	case api.Num:
		j.need(mach.Right(x.V) && x.V.Kind != api.Undef && x.V.Kind != api.Ptr, "%+v", x.V)
		return x.V.Kind
	case api.Temp:
		j.temp(x.N)
		return whatever
	case api.Local:
		j.need(x.N >= 0 && x.N < len(j.f.Locals), "local %d", x.N)
		return api.Long
	case api.Global:
		j.need(j.names[x.Name], "no %s", x.Name)
		return api.Long
	case api.Load:
		j.is(x.Addr, api.Long)
		j.need(mach.Kind(x.Chunk) != 0 && x.Off == 0, "%s", lightText(e))
		return mach.Kind(x.Chunk)
	case api.Op1:
		a, b, r := mach.Shape(x.Op)
		if x.Op == api.OpTruth || x.Op == api.OpFalse {
			a = whatever
		}
		j.need(a != 0 && b == 0, "%s", lightText(e))
		j.is(x.X, a)
		return r
	case api.Op2:
		a, b, r := mach.Shape(x.Op)
		j.need(b != 0, "%s", lightText(e))
		j.is(x.X, a)
		j.is(x.Y, b)
		return r
	}
	j.need(false, "%+v isn't of Light", e)
	return whatever
}

// bareExpr is an expression without its parts, but for how many there are.
func bareExpr(e api.Expr) any {
	params, kids := slices.Concat([]int{0}, e.Sig.Params), len(e.Kids)
	e.Sig.Params, e.Kids = nil, nil
	return []any{e, params, kids}
}

// bareStmt is a statement likewise.
func bareStmt(s api.Stmt) any {
	params := slices.Concat([]int{0}, s.Sig.Params)
	parts := []int{len(s.X), len(s.One), len(s.Two), len(s.Items)}
	s.Sig.Params, s.X, s.One, s.Two, s.Items = nil, nil, nil, nil, nil
	return []any{s, params, parts}
}

// span is the memory of a list, its spare room too.
type span struct {
	from, to uintptr
	answered bool
}

func spansOf(v reflect.Value, answered bool, spans []span) []span {
	switch v.Kind() {
	case reflect.Slice:
		if n := uintptr(v.Cap()) * v.Type().Elem().Size(); n > 0 {
			spans = append(spans, span{v.Pointer(), v.Pointer() + n, answered})
		}
		for i := range v.Len() {
			spans = spansOf(v.Index(i), answered, spans)
		}
	case reflect.Struct:
		for i := range v.NumField() {
			spans = spansOf(v.Field(i), answered, spans)
		}
	}
	return spans
}

// sharing tells whether a list of an answer shares memory with another one of it or of what was given.
func sharing(given, answer api.Unit) bool {
	spans := spansOf(reflect.ValueOf(answer), true, spansOf(reflect.ValueOf(given), false, nil))
	slices.SortFunc(spans, func(a, b span) int { return cmp.Compare(a.from, b.from) })
	var ends, answers uintptr // of all, of the answer's
	for _, s := range spans {
		if s.from < answers || s.answered && s.from < ends {
			return true
		}
		ends = max(ends, s.to)
		if s.answered {
			answers = max(answers, s.to)
		}
	}
	return false
}

// lightOf is the Light of a unit, which must be right, and have what the unit has.
func lightOf(t testing.TB, what string, u api.Unit) api.Unit {
	t.Helper()
	v := simpl.Unit(u)
	for _, fault := range faultsOf(v) {
		t.Errorf("%s\n%s", what, fault)
	}
	if sharing(u, v) {
		t.Errorf("%s\nmemory is shared", what)
	}
	same := len(u.Vars) == len(v.Vars) && len(u.Externs) == len(v.Externs) && len(u.Funcs) == len(v.Funcs)
	for i := 0; same && i < len(u.Vars); i++ {
		a, b := u.Vars[i], v.Vars[i]
		same = slices.Equal(a.Init, b.Init)
		a.Init, b.Init = nil, nil
		same = same && reflect.DeepEqual(a, b)
	}
	for i := 0; same && i < len(u.Externs); i++ {
		same = u.Externs[i].Name == v.Externs[i].Name && sameSig(u.Externs[i].Sig, v.Externs[i].Sig)
	}
	for i := 0; same && i < len(u.Funcs); i++ {
		a, b := u.Funcs[i], v.Funcs[i]
		same = a.Name == b.Name && sameSig(a.Sig, b.Sig) && slices.Equal(a.Params, b.Params) && slices.Equal(a.Locals, b.Locals)
	}
	if !same {
		t.Errorf("%s\nvariables or functions are others: %+v", what, v)
	}
	return v
}

func sameSig(a, b api.Sig) bool { return a.Result == b.Result && slices.Equal(a.Params, b.Params) }
