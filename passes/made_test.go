package passes

import (
	"reflect"
	"slices"
	"testing"

	"alembic/api"
	"alembic/layout"
	"alembic/locals"
)

// turn tells what single expressions and statements become, by their fields; of the others it asks for the parts.
type turn struct {
	expr func(api.Expr) (api.Expr, bool)
	stmt func(api.Stmt) (api.Stmt, bool)
}

func (u turn) exprs(list []api.Expr) []api.Expr {
	var made []api.Expr
	for _, e := range list {
		if other, ok := u.expr(e); ok {
			e = other
		}
		e.Kids = u.exprs(e.Kids)
		made = append(made, e)
	}
	return made
}

func (u turn) list(list []api.Stmt) []api.Stmt {
	var made []api.Stmt
	for _, s := range list {
		if other, ok := u.stmt(s); ok {
			s = other
		}
		s.X, s.One, s.Two = u.exprs(s.X), u.list(s.One), u.list(s.Two)
		s.Items = slices.Clone(s.Items)
		for i, item := range s.Items {
			s.Items[i].S = u.list([]api.Stmt{item.S})[0]
		}
		made = append(made, s)
	}
	return made
}

// keptOf tells of each local whether it stays in memory, as the document says.
func keptOf(f api.Func) []bool {
	var kept []bool
	for _, s := range f.Locals {
		kept = append(kept, s.Chunk != api.C32 && s.Chunk != api.C64 && s.Chunk != api.CF64)
	}
	// chunk is what is loaded or stored at an expression's value, else 0
	look := func(e api.Expr, chunk int) {
		if e.Kind == api.KLocal && f.Locals[e.A].Chunk != chunk {
			kept[e.A] = true
		}
	}
	turn{
		expr: func(e api.Expr) (api.Expr, bool) {
			for _, part := range e.Kids {
				look(part, map[bool]int{true: e.A}[e.Kind == api.KLoad])
			}
			return e, false
		},
		stmt: func(s api.Stmt) (api.Stmt, bool) {
			for i, e := range s.X {
				look(e, map[bool]int{true: s.A}[s.Kind == api.KPut && i == 0])
			}
			return s, false
		},
	}.list(f.Body)
	return kept
}

// fewerLocals is what becomes of a function, as the document says, if the new temporaries come behind the others in their locals' order.
func fewerLocals(f api.Func) api.Func {
	made := f
	made.Params, made.Locals = nil, nil
	var homes []int
	for n, stays := range keptOf(f) {
		if stays {
			homes = append(homes, len(made.Locals))
			made.Locals = append(made.Locals, f.Locals[n])
		} else {
			homes = append(homes, -1-made.Temps)
			made.Temps++
		}
	}
	for _, p := range f.Params {
		if p >= 0 {
			p = homes[p]
		}
		made.Params = append(made.Params, p)
	}
	isGone := func(at api.Expr) bool { return at.Kind == api.KLocal && homes[at.A] < 0 }
	made.Body = turn{
		expr: func(e api.Expr) (api.Expr, bool) {
			switch {
			case e.Kind == api.KLoad && isGone(e.Kids[0]):
				return temp(-1 - homes[e.Kids[0].A]), true
			case e.Kind == api.KLocal:
				return local(homes[e.A]), true
			}
			return e, false
		},
		stmt: func(s api.Stmt) (api.Stmt, bool) {
			if s.Kind == api.KPut && isGone(s.X[0]) {
				return set(-1-homes[s.X[0].A], s.X[1]), true
			}
			return s, false
		},
	}.list(f.Body)
	return made
}

// inFrame is what becomes of a function, as the document says, if the new temporaries come behind the others in their parameters' order.
func inFrame(f api.Func) api.Func {
	made := f
	places, size := layout.Places(f.Locals)
	made.Params, made.Locals, made.Frame, made.Body = nil, nil, size, nil
	for _, p := range f.Params {
		if p >= 0 {
			made.Body = append(made.Body, put(f.Locals[p].Chunk, frame(places[p]), temp(made.Temps)))
			p = -1 - made.Temps
			made.Temps++
		}
		made.Params = append(made.Params, p)
	}
	made.Body = append(made.Body, turn{
		expr: func(e api.Expr) (api.Expr, bool) {
			if e.Kind == api.KLocal {
				return frame(places[e.A]), true
			}
			return e, false
		},
		stmt: func(s api.Stmt) (api.Stmt, bool) { return s, false },
	}.list(f.Body)...)
	return made
}

// fewerOf is what locals makes of a unit, which must be what the document says (P10.1, P10.3).
func fewerOf(t testing.TB, what string, u api.Unit) api.Unit {
	t.Helper()
	made := madeOf(t, what, light, u, locals.Unit, fewerLocals)
	for _, f := range u.Funcs {
		if got := locals.Kept(f); !slices.Equal(got, keptOf(f)) {
			t.Errorf("%s: %s\n%v stay", what, funcText(f), got)
		}
	}
	if again := locals.Unit(made); !reflect.DeepEqual(again, made) {
		t.Errorf("%s: done twice it is\n%+v, not\n%+v", what, again, made)
	}
	return made
}

// minorOf is what layout makes of a unit, which must be what the document says (P11.1).
func minorOf(t testing.TB, what string, u api.Unit) api.Unit {
	t.Helper()
	return madeOf(t, what, minor, u, layout.Unit, inFrame)
}

// madeOf is what a pass makes of a unit: right, of the same variables and functions, each of which became what it should, in memory of its own, the same each time.
func madeOf(t testing.TB, what string, language int, u api.Unit, pass func(api.Unit) api.Unit, function func(api.Func) api.Func) api.Unit {
	t.Helper()
	made := pass(u)
	for _, fault := range faultsOf(language, made) {
		t.Errorf("%s\n%s", what, fault)
	}
	if sharing(u, made) {
		t.Errorf("%s\nmemory is shared", what)
	}
	if !reflect.DeepEqual(pass(u), made) {
		t.Errorf("%s\nis something else the second time", what)
	}
	want := api.Unit{Vars: u.Vars, Externs: u.Externs}
	for _, f := range u.Funcs {
		want.Funcs = append(want.Funcs, function(f))
	}
	if !reflect.DeepEqual(made, want) {
		t.Errorf("%s\nis\n%+v\nnot\n%+v", what, made, want)
	}
	return made
}
