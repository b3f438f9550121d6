package simpl

import (
	"alembic/api"
	"alembic/mach"
	"alembic/remake"
)

// value is what an expression comes to.
func (w *writer) value(e api.Expr) value {
	switch x := e.View().(type) {
	case api.Old:
		return value{x: w.change.old}
	case api.Arg:
		return value{x: w.change.arg}
	case api.Load:
		return w.load(x)
	case api.Op1:
		return w.op1(x)
	case api.Op2:
		return w.op2(x)
	case api.OpI:
		return w.opI(x)
	case api.Assign:
		return w.assign(x, w.held)
	case api.Modify:
		return w.modify(x, w.held)
	case api.Comma:
		return w.comma(x)
	case api.Call:
		return w.called(x)
	}
	if c, ok := choosing(e); ok {
		return w.cond(c)
	}
	return value{x: anew(e)}
}

// effect is what an expression does; its value, if it has one, is dropped.
func (w *writer) effect(e api.Expr) steps {
	switch x := e.View().(type) {
	case api.Assign:
		return w.assign(x, loose).ahead
	case api.Modify:
		return w.modify(x, loose).ahead
	case api.Comma:
		return w.both(x)
	case api.Call:
		return w.call(-1, x)
	}
	if c, ok := choosing(e); ok {
		return w.choose(c)
	}
	return w.held(w.value(e)).ahead
}

// choosing is an expression of which a test tells how it is worked out, as a Cond.
func choosing(e api.Expr) (api.Cond, bool) {
	switch x := e.View().(type) {
	case api.Cond:
		return x, true
	case api.And:
		return api.Cond{X: x.X, Y: truth(x.Y), Z: number(0)}, true
	case api.Or:
		return api.Cond{X: x.X, Y: number(1), Z: truth(x.Y)}, true
	}
	return api.Cond{}, false
}

func truth(e api.Expr) api.Expr { return api.Op1{Op: api.OpTruth, X: e}.Expr() }

func number(n int32) api.Expr { return api.Num{V: mach.IntOf(n)}.Expr() }

// anew is an expression that has no parts, in memory of its own.
func anew(e api.Expr) api.Expr {
	if x, ok := e.View().(interface{ Expr() api.Expr }); ok {
		return x.Expr()
	}
	return api.Expr{}
}

func (w *writer) load(x api.Load) value {
	v := w.value(x.Addr)
	return value{v.ahead, api.Load{Chunk: x.Chunk, Addr: v.x, Off: x.Off}.Expr()}
}

func (w *writer) op1(x api.Op1) value {
	v := w.value(x.X)
	return value{v.ahead, api.Op1{Op: x.Op, X: v.x}.Expr()}
}

func (w *writer) op2(x api.Op2) value {
	list, ahead := w.parts(x.X, x.Y)
	return value{ahead, api.Op2{Op: x.Op, X: list[0], Y: list[1]}.Expr()}
}

func (w *writer) opI(x api.OpI) value {
	v := w.value(x.X)
	return value{v.ahead, api.OpI{Op: x.Op, X: v.x, N: x.N}.Expr()}
}

func (w *writer) comma(x api.Comma) value {
	first := w.effect(x.X)
	v := w.value(x.Y)
	return value{then(first, v.ahead), v.x}
}

func (w *writer) both(x api.Comma) steps {
	first := w.effect(x.X)
	return then(first, w.effect(x.Y))
}

// cond is a temporary that one of two sets.
func (w *writer) cond(x api.Cond) value {
	t := w.temp()
	test := w.value(x.X)
	yes := set(t.N, w.value(x.Y))
	return value{choice(test, yes, set(t.N, w.value(x.Z))), t.Expr()}
}

// choose is what one of two does.
func (w *writer) choose(x api.Cond) steps {
	test := w.value(x.X)
	yes := w.effect(x.Y)
	return choice(test, yes, w.effect(x.Z))
}

// choice is what one of two lays, by a test.
func choice(test value, yes, no steps) steps {
	return then(test.ahead, one(api.If{X: test.x, Then: gathered(yes), Else: gathered(no)}))
}

// assign stores a value, which is kept so that it can be asked for.
func (w *writer) assign(x api.Assign, kept func(value) value) value {
	list, ahead := w.parts(x.Addr, x.X)
	v := kept(value{ahead, list[1]})
	return value{then(v.ahead, one(api.Put{Chunk: x.Chunk, Addr: list[0], X: v.x})), v.x}
}

// modify changes what stands at an address; the new value is kept so that it can be asked for.
func (w *writer) modify(x api.Modify, kept func(value) value) value {
	at, arg := w.held(w.value(x.Addr)), w.held(w.value(x.Y))
	old := w.held(value{x: api.Load{Chunk: x.Chunk, Addr: at.x}.Expr()})
	v := w.changed(x.New, change{old.x, arg.x})
	result := old.x
	if !x.Back {
		v = kept(v)
		result = v.x
	}
	put := one(api.Put{Chunk: x.Chunk, Addr: at.x, X: v.x})
	return value{then(at.ahead, arg.ahead, old.ahead, v.ahead, put), result}
}

// changed is the New of a Modify.
func (w *writer) changed(e api.Expr, c change) value {
	outer := w.change
	w.change = c
	v := w.value(e)
	w.change = outer
	return v
}

// call calls a function; its result is set as a temporary, if that isn't below 0.
func (w *writer) call(n int, x api.Call) steps {
	list, ahead := w.parts(append([]api.Expr{x.F}, x.Args...)...)
	return then(ahead, one(api.Invoke{N: n, F: list[0], Args: list[1:], Sig: remake.Sig(x.Sig)}))
}

// called is a call's result; of a function without one a temporary that isn't set, which is undefined.
func (w *writer) called(x api.Call) value {
	t := w.temp()
	n := t.N
	if x.Sig.Result == 0 {
		n = -1
	}
	return value{w.call(n, x), t.Expr()}
}
