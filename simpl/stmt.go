package simpl

import (
	"alembic/api"
)

// list is the Light of statements, one behind the other.
func (w *writer) list(list []api.Stmt) []api.Stmt {
	return gathered(func(lay func(api.Stmt)) { w.statements(list, lay) })
}

func (w *writer) statements(list []api.Stmt, lay func(api.Stmt)) {
	for _, s := range list {
		w.statement(s, lay)
	}
}

// statement lays the Light of a statement; nothing, if it is none.
func (w *writer) statement(s api.Stmt, lay func(api.Stmt)) {
	switch x := s.View().(type) {
	case nil:
	case api.Do:
		w.effect(x.X).lay(lay)
	case api.If:
		v := w.value(x.X)
		v.ahead.lay(lay)
		lay(api.If{X: v.x, Then: w.list(x.Then), Else: w.list(x.Else)}.Stmt())
	case api.Loop:
		lay(w.loop(x).Stmt())
	case api.Switch:
		v := w.value(x.X)
		v.ahead.lay(lay)
		lay(api.Switch{X: v.x, Long: x.Long, Items: w.items(x.Items)}.Stmt())
	case api.Return:
		v := w.value(x.X)
		v.ahead.lay(lay)
		lay(api.Return{X: v.x}.Stmt())
	case api.Block:
		w.statements(x.List, lay)
	default:
		w.light(s, lay)
	}
}

// light lays a statement that Light has, too: what it works out may do something, as in Core.
func (w *writer) light(s api.Stmt, lay func(api.Stmt)) {
	switch x := s.View().(type) {
	case api.Set:
		set(x.N, w.value(x.X)).lay(lay)
	case api.Put:
		list, ahead := w.parts(x.Addr, x.X)
		ahead.lay(lay)
		lay(api.Put{Chunk: x.Chunk, Addr: list[0], Off: x.Off, X: list[1]}.Stmt())
	case api.Invoke:
		w.call(x.N, api.Call{F: x.F, Args: x.Args, Sig: x.Sig}).lay(lay)
	case form:
		lay(x.Stmt())
	}
}

// loop is a loop. Where its test does something, that is done within it: behind its steps, so that a Continue comes to it, or at the body's beginning.
func (w *writer) loop(x api.Loop) api.Loop {
	test := w.value(x.Test)
	light := api.Loop{Test: test.x, After: x.After, Body: w.list(x.Body), Step: w.list(x.Step)}
	switch {
	case test.ahead == nil:
	case x.After:
		light.Step = append(light.Step, gathered(test.ahead)...)
	default:
		leave := one(api.If{X: test.x, Else: []api.Stmt{api.Break{}.Stmt()}})
		light.Test = api.Expr{}
		light.Body = append(gathered(then(test.ahead, leave)), light.Body...)
	}
	return light
}

// items are a switch's; each statement is one of its own.
func (w *writer) items(list []api.Item) []api.Item {
	var light []api.Item
	for _, i := range list {
		w.statement(i.S, func(s api.Stmt) { light = append(light, api.Item{S: s}) })
		if i.Case || i.Default {
			light = append(light, api.Item{Case: i.Case, Default: i.Default, Value: i.Value})
		}
	}
	return light
}
