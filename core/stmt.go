package core

import (
	"alembic/api"
)

// list writes statements, one behind the other.
func (w *writer) list(list []api.Stmt) {
	for _, s := range list {
		w.statement(s)
	}
}

// statement writes a statement; nothing, if it is none.
func (w *writer) statement(s api.Stmt) {
	switch x := s.View().(type) {
	case api.Do:
		w.step()
		w.expr(x.X)
		w.add(drop)
	case api.Set:
		w.step()
		w.expr(x.X)
		w.add(temp{x.N}.set)
	case api.Put:
		w.step()
		w.expr(x.Addr)
		w.expr(x.X)
		w.add(access{x.Chunk, x.Off}.put)
	case api.Invoke:
		w.invoke(x)
	case api.Return:
		w.leave(x)
	case api.Block:
		w.list(x.List)
	default:
		w.flow(s)
	}
}

// flow writes a statement that tells where to go on.
func (w *writer) flow(s api.Stmt) {
	switch x := s.View().(type) {
	case api.If:
		w.choice(x)
	case api.Loop:
		w.loop(x)
	case api.Switch:
		w.branches(x)
	case api.Break:
		w.add(w.out)
	case api.Continue:
		w.add(w.next)
	case api.Goto:
		w.step()
		w.add(w.label(x.Name).jump)
	case api.Label:
		w.place(w.label(x.Name))
	}
}

func (w *writer) invoke(x api.Invoke) {
	w.step()
	w.expr(x.F)
	for _, a := range x.Args {
		w.expr(a)
	}
	w.add(call{x.Sig, len(x.Args)}.do)
	if x.N < 0 {
		w.add(drop)
	} else {
		w.add(temp{x.N}.set)
	}
}

func (w *writer) leave(x api.Return) {
	w.step()
	if x.X.None() {
		w.add(number{}.push)
	} else {
		w.expr(x.X)
	}
	w.add(leave)
}

// test writes a test, which goes to a spot where it doesn't hold; one that is none holds.
func (w *writer) test(x api.Expr, no *spot) {
	w.step()
	if !x.None() {
		w.expr(x)
		w.add(no.unless)
	}
}

func (w *writer) choice(x api.If) {
	no, end := &spot{}, &spot{}
	w.step()
	w.expr(x.X)
	w.add(no.unless)
	w.list(x.Then)
	w.add(end.jump)
	w.place(no)
	w.list(x.Else)
	w.place(end)
}

func (w *writer) loop(x api.Loop) {
	top, steps, out := &spot{}, &spot{}, &spot{}
	w.place(top)
	if !x.After {
		w.test(x.Test, out)
	}
	w.within(x.Body, out.jump, steps.jump)
	w.place(steps)
	// Each way round a loop takes a step, but for that of a Continue in its steps.
	w.within(x.Step, out.jump, (&ring{to: steps}).jump)
	if x.After {
		w.test(x.Test, out)
	}
	w.add(top.jump)
	w.place(out)
}

// within writes statements in which Break and Continue do this.
func (w *writer) within(list []api.Stmt, out, next func(m *machine)) {
	outer, again := w.out, w.next
	w.out, w.next = out, next
	w.list(list)
	w.out, w.next = outer, again
}

// branches is where a switch goes.
type branches struct {
	kind  int // of what is asked
	cases map[uint64]*spot
	other *spot // the default, if there is one
	out   *spot
}

func (w *writer) branches(x api.Switch) {
	b := &branches{kind: api.Int, cases: map[uint64]*spot{}, other: &spot{}, out: &spot{}}
	if x.Long {
		b.kind = api.Long
	}
	w.step()
	w.expr(x.X)
	w.add(b.jump)
	outer := w.out
	w.out = b.out.jump
	for _, i := range x.Items {
		w.item(b, i)
	}
	w.out = outer
	w.place(b.out)
}

// item writes an item of a switch, and keeps where it is gone to.
func (w *writer) item(b *branches, i api.Item) {
	w.statement(i.S)
	if i.Case {
		if b.cases[i.Value] == nil {
			b.cases[i.Value] = &spot{}
		}
		w.place(b.cases[i.Value])
	}
	if i.Default {
		w.place(b.other)
	}
}

func (b *branches) jump(m *machine) {
	v := m.pop()
	m.must(v.Kind == b.kind)
	to := b.cases[v.Bits]
	if to == nil {
		to = b.other
	}
	if !to.known {
		to = b.out
	}
	to.jump(m)
}
