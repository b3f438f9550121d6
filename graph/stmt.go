package graph

import (
	"slices"

	"alembic/api"
	"alembic/mach"
	"alembic/remake"
)

// list is statements, behind which it goes on at next.
func (w *writer) list(list []api.Stmt, next int) int {
	for _, s := range slices.Backward(list) {
		next = w.stmt(s, next)
	}
	return next
}

// stmt is a statement; nothing, if it is none.
func (w *writer) stmt(s api.Stmt, next int) int {
	switch x := s.View().(type) {
	case api.Set:
		return w.set(x, next)
	case api.Put:
		i := api.Instr{Kind: api.IStore, Chunk: x.Chunk, Off: x.Off, Next: next}
		return w.with(i, part{x.Addr, api.Long}, part{x.X, mach.Kind(x.Chunk)})
	case api.Invoke:
		return w.invoke(x, next)
	case api.Return:
		return w.leave(x)
	case api.Block:
		return w.list(x.List, next)
	}
	return w.flow(s, next)
}

// flow is a statement that tells where to go on.
func (w *writer) flow(s api.Stmt, next int) int {
	switch x := s.View().(type) {
	case api.If:
		return w.test(x.X, w.list(x.Then, next), w.list(x.Else, next))
	case api.Loop:
		return w.loop(x, next)
	case api.Break:
		return w.out
	case api.Continue:
		return w.again
	case api.Goto:
		return w.label(x.Name)
	case api.Label:
		n := w.label(x.Name)
		w.lay(n, next)
		return n
	}
	return next
}

func (w *writer) set(x api.Set, next int) int {
	to, k := w.temps[x.N], kind(x.X)
	if k == 0 {
		return w.copy(to, w.variable(x.X), next)
	}
	return w.expr(x.X, to.at[k], w.became(to, k, next))
}

// invoke is a call; a function that is called by its name stands in it as Sym.
func (w *writer) invoke(x api.Invoke, next int) int {
	i := api.Instr{Kind: api.ICall, Sig: remake.Sig(x.Sig), Dst: -1, Next: next}
	if at, ok := w.temps[x.N].at[x.Sig.Result]; ok && x.N >= 0 {
		i.Dst, i.Next = at, w.became(w.temps[x.N], x.Sig.Result, next)
	}
	var parts []part
	if g, ok := x.F.View().(api.Global); ok && w.isFunction(g.Name) {
		i.Sym = g.Name
	} else {
		parts = append(parts, part{x.F, api.Long})
	}
	for n, a := range x.Args[:min(len(x.Args), len(x.Sig.Params))] {
		parts = append(parts, part{a, x.Sig.Params[n]})
	}
	return w.with(i, parts...)
}

func (w *writer) isFunction(name string) bool {
	_, ok := w.functions[name]
	return ok
}

func (w *writer) leave(x api.Return) int {
	i, k := api.Instr{Kind: api.IReturn}, w.f.Sig.Result
	switch {
	case x.X.None():
		return w.add(i)
	case k == 0:
		return w.worked(part{x.X, k}, -1, w.add(i))
	}
	return w.with(i, part{x.X, k})
}

// test goes to yes or to no; a test that is none holds.
func (w *writer) test(x api.Expr, yes, no int) int {
	i := api.Instr{Kind: api.ICond, Next: yes, Else: no}
	switch {
	case x.None():
		return yes
	case !slices.Equal(w.kinds(x), []int{api.Int}):
		x = api.Op1{Op: api.OpTruth, X: x}.Expr()
	}
	return w.with(i, part{x, api.Int})
}

func (w *writer) loop(x api.Loop, next int) int {
	top, steps := w.spot(), w.spot()
	behind := top
	if x.After {
		behind = w.test(x.Test, top, next)
	}
	w.lay(steps, w.within(x.Step, next, steps, behind))
	begin := w.within(x.Body, next, steps, steps)
	if !x.After {
		begin = w.test(x.Test, begin, next)
	}
	w.lay(top, begin)
	return top
}

// within is statements in which Break and Continue go to these.
func (w *writer) within(list []api.Stmt, out, again, next int) int {
	outer, around := w.out, w.again
	w.out, w.again = out, again
	begin := w.list(list, next)
	w.out, w.again = outer, around
	return begin
}
