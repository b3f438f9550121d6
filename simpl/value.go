package simpl

import (
	"slices"

	"alembic/api"
)

// steps lays statements of Light where they are to stand; nil lays none. It is called once: what it lays is in no other place.
type steps func(lay func(api.Stmt))

// value is an expression of Light, and what is done ahead of it.
type value struct {
	ahead steps
	x     api.Expr
}

// form is a statement's form by its name.
type form interface{ Stmt() api.Stmt }

func one(f form) steps { return func(lay func(api.Stmt)) { lay(f.Stmt()) } }

// then is steps one behind the other.
func then(list ...steps) steps {
	some := slices.DeleteFunc(list, func(s steps) bool { return s == nil })
	switch len(some) {
	case 0:
		return nil
	case 1:
		return some[0]
	}
	return func(lay func(api.Stmt)) {
		for _, s := range some {
			s(lay)
		}
	}
}

// lay lays them, if there are any.
func (s steps) lay(lay func(api.Stmt)) {
	if s != nil {
		s(lay)
	}
}

// gathered is the list of what steps lay.
func gathered(s steps) []api.Stmt {
	var list []api.Stmt
	s.lay(func(x api.Stmt) { list = append(list, x) })
	return list
}

// isStill tells whether an expression has a meaning and is the same whenever it is worked out.
func isStill(e api.Expr) bool {
	switch e.View().(type) {
	case nil, api.Num, api.Temp, api.Local, api.Global, api.Frame:
		return true
	}
	return false
}

// held is a value that stays what it is, whatever is done behind it, and may be used more than once.
func (w *writer) held(v value) value {
	if isStill(v.x) {
		return v
	}
	t := w.temp()
	return value{ahead: set(t.N, v), x: t.Expr()}
}

// loose is a value that is used once, right behind what stands ahead of it.
func loose(v value) value { return v }

func set(n int, v value) steps { return then(v.ahead, one(api.Set{N: n, X: v.x})) }

// parts are expressions that are worked out from the left to the right, and what is done ahead of all: what comes ahead of a part that does something is held.
func (w *writer) parts(list ...api.Expr) ([]api.Expr, steps) {
	values := make([]value, len(list))
	for i, e := range list {
		values[i] = w.value(e)
	}
	exprs, ahead := make([]api.Expr, len(list)), make([]steps, len(list))
	done := false
	for i, v := range slices.Backward(values) {
		if done {
			v = w.held(v)
		}
		done = done || v.ahead != nil
		exprs[i], ahead[i] = v.x, v.ahead
	}
	return exprs, then(ahead...)
}
