package core

import (
	"alembic/api"
	"alembic/mach"
	"alembic/world"
)

// expr writes an expression.
func (w *writer) expr(e api.Expr) {
	switch x := e.View().(type) {
	case api.Num:
		w.add(number{x.V}.push)
	case api.Temp:
		w.add(temp(x).push)
	case api.Local:
		w.local(x.N)
	case api.Global:
		w.global(x.Name)
	case api.Frame:
		w.add(room{frame, w.f.Frame, x.Off}.push)
	case api.Load:
		w.expr(x.Addr)
		w.add(access{x.Chunk, x.Off}.load)
	case api.Op1:
		w.expr(x.X)
		w.add(operation(x.Op).one)
	case api.Op2:
		w.parts(x.X, x.Y)
		w.add(operation(x.Op).two)
	case api.OpI:
		w.withNumber(x)
	default:
		w.effect(e)
	}
}

// effect writes an expression of Core alone.
func (w *writer) effect(e api.Expr) {
	switch x := e.View().(type) {
	case api.Assign:
		w.parts(x.Addr, x.X)
		w.add(access{chunk: x.Chunk}.assign)
	case api.Modify:
		w.modify(x)
	case api.Old:
		w.ofChange(func(m *machine) { m.push(m.change().old) })
	case api.Arg:
		w.ofChange(func(m *machine) { m.push(m.change().arg) })
	case api.Cond:
		w.cond(x)
	case api.And:
		no := &spot{}
		w.both(x.X, x.Y, no, no.unless, 0)
	case api.Or:
		yes := &spot{}
		w.both(x.X, x.Y, yes, yes.when, 1)
	case api.Comma:
		w.expr(x.X)
		w.add(drop)
		w.expr(x.Y)
	case api.Call:
		w.parts(append([]api.Expr{x.F}, x.Args...)...)
		w.add(call{x.Sig, len(x.Args)}.do)
	default:
		w.add(wrong)
	}
}

// temp is a temporary.
type temp api.Temp

func (t temp) push(m *machine) { m.push(m.now.temps[t.N]) }

func (t temp) set(m *machine) { m.now.temps[t.N] = m.pop() }

// room is a place in an activation's memory: a local's block or the frame, of a size, and an offset there.
type room struct{ n, size, off int }

func (r room) push(m *machine) { m.push(world.Behind(m.own(r.n, r.size), r.off)) }

func (w *writer) local(n int) {
	if n < 0 || n >= len(w.f.Locals) {
		w.add(wrong)
		return
	}
	w.add(room{n: n, size: w.f.Locals[n].Size}.push)
}

func (w *writer) global(name string) {
	w.known(w.address(name))
}

// known writes a value that is known ahead of the run; without a meaning the run ends.
func (w *writer) known(v api.Value, ok bool) {
	if !ok {
		w.add(wrong)
		return
	}
	w.add(number{v}.push)
}

// access is a load or a store by a chunk, so many bytes behind an address.
type access struct{ chunk, off int }

func (a access) load(m *machine) { m.push(m.meant(m.Load(a.chunk, m.pop(), a.off))) }

func (a access) put(m *machine) {
	top := m.take(2)
	m.must(m.Store(a.chunk, top[0], a.off, top[1]))
}

func (a access) assign(m *machine) {
	v := m.values[len(m.values)-1]
	a.put(m)
	m.push(v)
}

// operation is one of one or two values.
type operation int

func (o operation) one(m *machine) { m.push(m.meant(mach.Eval1(int(o), m.pop()))) }

func (o operation) two(m *machine) {
	top := m.take(2)
	m.push(m.meant(m.Eval2(int(o), top[0], top[1])))
}

// withNumber writes an operation whose second operand is a number, which no pick puts ahead of the first.
func (w *writer) withNumber(x api.OpI) {
	w.expr(x.X)
	w.known(world.Number(x.Op, x.N))
	w.add(operation(x.Op).two)
}

// change is a Modify of which the New is worked out.
type change struct{ at, old, arg api.Value }

func (m *machine) change() change { return m.changes[len(m.changes)-1] }

// modify is a Modify's chunk, and whether it has the old value.
type modify struct {
	chunk int
	back  bool
}

func (w *writer) modify(x api.Modify) {
	c := modify{x.Chunk, x.Back}
	w.parts(x.Addr, x.Y)
	w.add(c.begin)
	w.news++
	w.expr(x.New)
	w.news--
	w.add(c.end)
}

func (c modify) begin(m *machine) {
	top := m.take(2)
	m.changes = append(m.changes, change{at: top[0], old: m.meant(m.Load(c.chunk, top[0], 0)), arg: top[1]})
}

func (c modify) end(m *machine) {
	done, v := m.change(), m.pop()
	m.changes = m.changes[:len(m.changes)-1]
	m.must(m.Store(c.chunk, done.at, 0, v))
	if c.back {
		v = done.old
	}
	m.push(v)
}

// ofChange writes what stands in a Modify's New alone.
func (w *writer) ofChange(step func(m *machine)) {
	if w.news == 0 {
		step = wrong
	}
	w.add(step)
}

func (w *writer) cond(x api.Cond) {
	no, end := &spot{}, &spot{}
	w.expr(x.X)
	w.add(no.unless)
	w.expr(x.Y)
	w.add(end.jump)
	w.place(no)
	w.expr(x.Z)
	w.place(end)
}

// both writes the truth of two expressions, of which the first may suffice: it goes to the spot known, where the truth is this number.
func (w *writer) both(x, y api.Expr, known *spot, test func(m *machine), truth int32) {
	end := &spot{}
	w.expr(x)
	w.add(test)
	w.expr(y)
	w.add(operation(api.OpTruth).one, end.jump)
	w.place(known)
	w.number(truth)
	w.place(end)
}

// call is a call of a function as one of a signature, with so many arguments.
type call struct {
	sig  api.Sig
	args int
}

func (c call) do(m *machine) {
	top := m.take(1 + c.args)
	m.call(top[0], top[1:], c.sig)
}
