package check

import (
	"alembic/api"
	"alembic/ctype"
)

// unit is what is known of a unit's records, variables and functions while its trees are gone through.
type unit struct {
	vars, texts []api.Var
	externs     []api.Extern
	funcs       []api.Func
	names       map[string]global
	records     map[string]api.Layout
	members     map[member]api.Field
}

// global is what a name of the unit stands for: a place or a function, which may be from outside, or have its body already.
type global struct {
	what         result
	extern, body bool
}

// member is a record's and its member's name.
type member struct{ record, name string }

func unitOf(trees []api.Tree) api.Unit {
	u := unit{names: map[string]global{}, records: map[string]api.Layout{}, members: map[member]api.Field{}}
	for _, t := range trees {
		u.declare(t)
	}
	for _, t := range trees {
		if f, ok := t.View().(api.TFunc); ok {
			known := u.names[f.Name]
			require(known.extern || known.body, f.At, api.ErrName)
		}
	}
	return api.Unit{Vars: append(u.vars, u.texts...), Externs: u.externs, Funcs: u.funcs}
}

func (u *unit) declare(t api.Tree) {
	switch x := t.View().(type) {
	case api.TRecord:
		u.record(x)
	case api.TVar:
		u.variable(x)
	case api.TFunc:
		u.function(x)
	default:
		fail(t.At, api.ErrSyntax)
	}
}

func (u *unit) record(r api.TRecord) {
	_, twice := u.records[r.Name]
	require(!twice, r.At, api.ErrName)
	var known []api.Layout
	for _, f := range r.Fields {
		known = append(known, u.recordIn(f.Type)...)
	}
	l, _, errno := ctype.Lay(r.Name, r.Union, r.Fields, known)
	require(errno == api.OK, r.At, errno)
	u.records[r.Name] = l
	for _, f := range l.Fields {
		u.members[member{r.Name, f.Name}] = f
	}
}

// size is a type's size and alignment; the alignment of one that isn't complete is 0.
func (u *unit) size(t api.Type) (int, int) { return ctype.Size(t, u.recordIn(t)) }

// sizeAt is the size of a type that has to be complete for the tree at a place.
func (u *unit) sizeAt(at api.Place, t api.Type) int {
	size, align := u.size(t)
	require(align != 0, at, api.ErrType)
	return size
}

// recordIn is the layout of the record that a type is, or is an array of, if it is known. No other one plays a part in the type's size, and there may be many.
func (u *unit) recordIn(t api.Type) []api.Layout {
	switch x := t.View().(type) {
	case api.Array:
		return u.recordIn(x.Of)
	case api.Record:
		if l, ok := u.records[x.Name]; ok {
			return []api.Layout{l}
		}
	}
	return nil
}

func (u *unit) variable(v api.TVar) {
	_, known := u.names[v.Name]
	require(!known, v.At, api.ErrName)
	size, align := u.size(v.Type)
	require(align != 0, v.At, api.ErrType)
	u.names[v.Name] = global{what: place{addr: api.Global{Name: v.Name}.Expr(), t: v.Type}}
	g := api.Var{Name: v.Name, Size: size, Align: align}
	if !v.Init.None() {
		g.Init = u.begin(nil, v.Init, v.Type, 0)
	}
	u.vars = append(u.vars, g)
}

func (u *unit) function(f api.TFunc) {
	hasBody := !f.Body.None()
	u.checkName(f, hasBody)
	u.checkType(f)
	old := u.names[f.Name]
	u.names[f.Name] = global{
		what:   function{addr: api.Global{Name: f.Name}.Expr(), t: f.Type.Type()},
		extern: f.Extern,
		body:   hasBody || old.body,
	}
	if f.Extern {
		u.externs = append(u.externs, api.Extern{Name: f.Name, Sig: sigOf(f.Type)})
	}
	if hasBody {
		u.funcs = append(u.funcs, u.bodied(f))
	}
}

// checkName fails, if a function can't have its name, beside what is known.
func (u *unit) checkName(f api.TFunc, hasBody bool) {
	old, known := u.names[f.Name]
	if !known {
		return
	}
	was, ok := old.what.(function)
	require(ok && !old.extern, f.At, api.ErrName)
	require(!f.Extern && !(hasBody && old.body), f.At, api.ErrName)
	require(ctype.Same(was.t, f.Type.Type()), f.At, api.ErrType)
}

// checkType fails, if a function can't have its result and its parameters.
func (u *unit) checkType(f api.TFunc) {
	result := f.Type.Result
	require(isVoid(result) || isScalar(result), f.At, api.ErrType)
	for _, p := range f.Type.Params {
		require(isScalar(p), f.At, api.ErrType)
	}
	if f.Name == "main" {
		fits := len(f.Type.Params) == 0 && ctype.Same(result, intType()) && !f.Extern
		require(fits, f.At, api.ErrType)
	}
	n, ok := result.View().(api.Number)
	require(!f.Extern || !ok || n.Size >= 4, f.At, api.ErrType)
	names := map[string]struct{}{}
	for _, p := range f.Params {
		_, twice := names[p]
		require(!twice, f.At, api.ErrName)
		names[p] = struct{}{}
	}
}
