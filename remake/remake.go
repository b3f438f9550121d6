// Package remake makes programs anew, in memory of their own, with other parts. The passes share it.
package remake

import (
	"slices"

	"alembic/api"
)

// Pass is one over Light or Minor. It tells what single expressions and statements become. For those that are kept it asks Expr and Stmt, which ask it for their parts.
type Pass interface {
	Expr(e api.Expr) api.Expr
	Stmt(s api.Stmt) api.Stmt
}

// Unit is a unit of the same variables and functions from outside, each of whose functions is what function makes of it.
func Unit(u api.Unit, function func(f api.Func) api.Func) api.Unit {
	made := api.Unit{Vars: Vars(u.Vars), Externs: Externs(u.Externs)}
	for _, f := range u.Funcs {
		made.Funcs = append(made.Funcs, function(f))
	}
	return made
}

// Vars are the same variables.
func Vars(list []api.Var) []api.Var {
	var made []api.Var
	for _, v := range list {
		v.Init = slices.Clone(v.Init)
		made = append(made, v)
	}
	return made
}

// Externs are the same functions from outside.
func Externs(list []api.Extern) []api.Extern {
	var made []api.Extern
	for _, e := range list {
		made = append(made, api.Extern{Name: e.Name, Sig: Sig(e.Sig)})
	}
	return made
}

// Sig is the same signature.
func Sig(s api.Sig) api.Sig {
	return api.Sig{Params: slices.Clone(s.Params), Result: s.Result}
}

// Expr is an expression whose parts are what a pass makes of them.
func Expr(p Pass, e api.Expr) api.Expr {
	switch x := e.View().(type) {
	case api.Load:
		return api.Load{Chunk: x.Chunk, Addr: p.Expr(x.Addr), Off: x.Off}.Expr()
	case api.Op1:
		return api.Op1{Op: x.Op, X: p.Expr(x.X)}.Expr()
	case api.Op2:
		return api.Op2{Op: x.Op, X: p.Expr(x.X), Y: p.Expr(x.Y)}.Expr()
	}
	return e
}

// List is statements each of which is what a pass makes of it.
func List(p Pass, list []api.Stmt) []api.Stmt {
	var made []api.Stmt
	for _, s := range list {
		made = append(made, p.Stmt(s))
	}
	return made
}

// Stmt is a statement whose parts are what a pass makes of them.
func Stmt(p Pass, s api.Stmt) api.Stmt {
	switch x := s.View().(type) {
	case api.Set:
		return api.Set{N: x.N, X: p.Expr(x.X)}.Stmt()
	case api.Put:
		return api.Put{Chunk: x.Chunk, Addr: p.Expr(x.Addr), Off: x.Off, X: p.Expr(x.X)}.Stmt()
	case api.Invoke:
		return api.Invoke{N: x.N, F: p.Expr(x.F), Args: exprs(p, x.Args), Sig: Sig(x.Sig)}.Stmt()
	case api.If:
		return api.If{X: p.Expr(x.X), Then: List(p, x.Then), Else: List(p, x.Else)}.Stmt()
	case api.Loop:
		return api.Loop{Test: p.Expr(x.Test), After: x.After, Body: List(p, x.Body), Step: List(p, x.Step)}.Stmt()
	case api.Switch:
		return api.Switch{X: p.Expr(x.X), Long: x.Long, Items: items(p, x.Items)}.Stmt()
	case api.Return:
		return api.Return{X: p.Expr(x.X)}.Stmt()
	case api.Block:
		return api.Block{List: List(p, x.List)}.Stmt()
	}
	return s
}

func exprs(p Pass, list []api.Expr) []api.Expr {
	var made []api.Expr
	for _, e := range list {
		made = append(made, p.Expr(e))
	}
	return made
}

// items are a switch's.
func items(p Pass, list []api.Item) []api.Item {
	var made []api.Item
	for _, i := range list {
		i.S = p.Stmt(i.S)
		made = append(made, i)
	}
	return made
}
