package core_test

import (
	"slices"

	"alembic/api"
	"alembic/mach"
	"alembic/memory"
	"alembic/trace"
)

// model works a program out part within part, as the document tells it: without any list of steps.
type model struct {
	mem         *memory.Memory
	blocks      map[string]int
	externs     map[int]api.Extern
	funcs       map[int]api.Func
	picks       []int
	script      []int64
	fuel, steps int
	calls       int
	trace       []api.Event
}

// inside is an activation.
type inside struct {
	f          api.Func
	locals     []int
	frame      int
	temps      map[int]api.Value
	olds, args []api.Value
}

// stop ends a run.
type stop struct {
	status int
	code   int32
}

// modelRun is what Run must answer.
func modelRun(u api.Unit, picks []int, script []int64, fuel int) (o api.Outcome) {
	m := &model{mem: memory.New(), blocks: map[string]int{}, externs: map[int]api.Extern{}, funcs: map[int]api.Func{}, picks: picks, script: script, fuel: min(max(fuel, 0), api.MaxFuel)}
	defer func() {
		s := recover().(stop)
		o = api.Outcome{Trace: m.trace, Status: s.status, Code: s.code, Steps: m.steps}
	}()
	m.begin(u)
	for _, f := range u.Funcs {
		if f.Name == "main" {
			v := m.enter(f, nil)
			m.need(v.Kind == api.Int)
			panic(stop{status: api.Exited, code: int32(v.Bits)})
		}
	}
	panic(stop{status: api.Wrong})
}

func (m *model) need(holds bool) {
	if !holds {
		panic(stop{status: api.Wrong})
	}
}

func (m *model) step() {
	if m.steps == m.fuel {
		panic(stop{status: api.Running})
	}
	m.steps++
}

func (m *model) begin(u api.Unit) {
	for _, v := range u.Vars {
		m.blocks[v.Name] = m.mem.Alloc(v.Size)
		for i := range v.Size {
			m.need(m.mem.Store(api.C8U, mach.PtrOf(m.blocks[v.Name], int64(i)), mach.IntOf(0)))
		}
	}
	for _, e := range u.Externs {
		m.blocks[e.Name] = m.mem.Alloc(1)
		m.externs[m.blocks[e.Name]] = e
	}
	for _, f := range u.Funcs {
		m.blocks[f.Name] = m.mem.Alloc(1)
		m.funcs[m.blocks[f.Name]] = f
	}
	for _, v := range u.Vars {
		for _, d := range v.Init {
			x := d.V
			if d.Sym != "" {
				x = mach.PtrOf(m.blocks[d.Sym], int64(d.Off))
			}
			m.need(m.mem.Store(d.Chunk, mach.PtrOf(m.blocks[v.Name], int64(d.At)), x))
		}
		if v.Fixed {
			m.mem.Fix(m.blocks[v.Name])
		}
	}
	for b := range m.externs {
		m.mem.Fix(b)
	}
	for b := range m.funcs {
		m.mem.Fix(b)
	}
}

func (m *model) call(at api.Value, args []api.Value, sig api.Sig) api.Value {
	m.need(at.Kind == api.Ptr && at.Bits == 0)
	if e, ok := m.externs[at.Block]; ok {
		m.need(e.Sig.Result == sig.Result && slices.Equal(e.Sig.Params, sig.Params))
		event, ok := trace.Call(e.Name, e.Sig, args, m.script, len(m.trace))
		m.need(ok)
		m.trace = append(m.trace, event)
		return event.Result
	}
	f, ok := m.funcs[at.Block]
	m.need(ok && f.Sig.Result == sig.Result && slices.Equal(f.Sig.Params, sig.Params))
	return m.enter(f, args)
}

func (m *model) enter(f api.Func, args []api.Value) api.Value {
	if m.calls == api.MaxCalls {
		panic(stop{status: api.Running})
	}
	m.step()
	m.calls++
	a := &inside{f: f, temps: map[int]api.Value{}}
	for _, s := range f.Locals {
		a.locals = append(a.locals, m.mem.Alloc(s.Size))
	}
	a.frame = m.mem.Alloc(f.Frame)
	for i, p := range f.Params {
		if p < 0 {
			a.temps[-1-p] = args[i]
		} else {
			m.need(m.mem.Store(f.Locals[p].Chunk, mach.PtrOf(a.locals[p], 0), args[i]))
		}
	}
	var result api.Value
	for w := (way{}); ; {
		w = m.list(a, f.Body, w.label)
		if w.kind == returned {
			result = w.v
		}
		if w.kind != gone {
			break
		}
		m.need(holdsList(f.Body, w.label))
	}
	m.calls--
	for _, b := range append(a.locals, a.frame) {
		m.mem.Free(b)
	}
	if f.Sig.Result == 0 {
		return api.Value{}
	}
	return result
}

// way is how statements were left: behind them, by a Break, a Continue, a Goto to a label, or a Return.
type way struct {
	kind  int
	label string
	v     api.Value
}

const (
	behind = iota
	broken
	continued
	gone
	returned
)

// list does statements; those ahead of the label that is sought, if one is, are passed over.
func (m *model) list(a *inside, list []api.Stmt, seek string) way {
	for _, s := range list {
		if seek != "" && !holds(s, seek) {
			continue
		}
		w := m.statement(a, s, seek)
		if w.kind != behind {
			return w
		}
		seek = ""
	}
	return way{}
}

func holdsList(list []api.Stmt, label string) bool {
	return slices.ContainsFunc(list, func(s api.Stmt) bool { return holds(s, label) })
}

// holds tells whether a label is in a statement.
func holds(s api.Stmt, label string) bool {
	items := slices.ContainsFunc(s.Items, func(i api.Item) bool { return holds(i.S, label) })
	return s.Kind == api.KLabel && s.Name == label || items || holdsList(s.One, label) || holdsList(s.Two, label)
}

func (m *model) statement(a *inside, s api.Stmt, seek string) way {
	switch s.Kind {
	case api.KIf:
		if seek != "" && holdsList(s.One, seek) {
			return m.list(a, s.One, seek)
		} else if seek != "" {
			return m.list(a, s.Two, seek)
		}
		m.step()
		if m.truth(m.eval(a, s.X[0])) {
			return m.list(a, s.One, "")
		}
		return m.list(a, s.Two, "")
	case api.KLoop:
		return m.loop(a, s, seek)
	case api.KSwitch:
		return m.choice(a, s, seek)
	case api.KBlock:
		return m.list(a, s.One, seek)
	case api.KBreak:
		return way{kind: broken}
	case api.KContinue:
		return way{kind: continued}
	case api.KLabel:
		return way{}
	}
	m.step()
	switch s.Kind {
	case api.KDo:
		m.eval(a, s.X[0])
	case api.KSet:
		a.temps[s.A] = m.eval(a, s.X[0])
	case api.KPut:
		at := m.eval(a, s.X[0])
		v := m.eval(a, s.X[1])
		m.need(m.mem.Store(s.A, mach.PtrOf(at.Block, int64(at.Bits)+int64(s.B)), v))
	case api.KInvoke:
		var parts []api.Value
		for _, x := range s.X {
			parts = append(parts, m.eval(a, x))
		}
		if v := m.call(parts[0], parts[1:], s.Sig); s.A >= 0 {
			a.temps[s.A] = v
		}
	case api.KGoto:
		return way{kind: gone, label: s.Name}
	case api.KReturn:
		w := way{kind: returned}
		if !s.X[0].None() {
			w.v = m.eval(a, s.X[0])
		}
		return w
	}
	return way{}
}

func (m *model) loop(a *inside, s api.Stmt, seek string) way {
	inSteps := seek != "" && !holdsList(s.One, seek)
	tested := seek != "" || s.Flag
	for {
		if !tested && !m.test(a, s) {
			return way{}
		}
		tested = s.Flag
		if !inSteps {
			w := m.list(a, s.One, seek)
			if w.kind == broken {
				return way{}
			} else if w.kind == gone || w.kind == returned {
				return w
			}
			seek = ""
		}
		inSteps = false
		w := m.list(a, s.Two, seek)
		if w.kind == broken {
			return way{}
		} else if w.kind == gone || w.kind == returned {
			return w
		}
		seek = ""
		if s.Flag && !m.test(a, s) {
			return way{}
		}
	}
}

func (m *model) test(a *inside, s api.Stmt) bool {
	m.step()
	return s.X[0].None() || m.truth(m.eval(a, s.X[0]))
}

func (m *model) choice(a *inside, s api.Stmt, seek string) way {
	from := slices.IndexFunc(s.Items, func(i api.Item) bool { return seek != "" && holds(i.S, seek) })
	if seek == "" {
		m.step()
		v := m.eval(a, s.X[0])
		m.need(v.Kind == api.Int && !s.Flag || v.Kind == api.Long && s.Flag)
		from = slices.IndexFunc(s.Items, func(i api.Item) bool { return i.Case && i.Value == v.Bits })
		if from < 0 {
			from = slices.IndexFunc(s.Items, func(i api.Item) bool { return i.Default })
		}
		if from < 0 {
			return way{}
		}
	}
	for _, i := range s.Items[from:] {
		if i.S.None() {
			continue
		}
		w := m.statement(a, i.S, seek)
		if w.kind == broken {
			return way{}
		} else if w.kind != behind {
			return w
		}
		seek = ""
	}
	return way{}
}

func (m *model) truth(v api.Value) bool {
	t, ok := mach.Truth(v)
	m.need(ok)
	return t
}

// parts are the values of expressions, in the order that a pick tells.
func (m *model) parts(a *inside, list ...api.Expr) []api.Value {
	pick := 0
	if len(m.picks) > 0 {
		pick, m.picks = m.picks[0], m.picks[1:]
	}
	values := make([]api.Value, len(list))
	for i := range list {
		if pick&1 == 1 {
			i = len(list) - 1 - i
		}
		values[i] = m.eval(a, list[i])
	}
	return values
}

func (m *model) load(chunk int, at api.Value) api.Value {
	v, ok := m.mem.Load(chunk, at)
	m.need(ok)
	return v
}

func flag(b bool) api.Value {
	if b {
		return mach.IntOf(1)
	}
	return mach.IntOf(0)
}

func (m *model) eval(a *inside, e api.Expr) api.Value {
	switch x := e.View().(type) {
	case api.Num:
		return x.V
	case api.Temp:
		return a.temps[x.N]
	case api.Local:
		return mach.PtrOf(a.locals[x.N], 0)
	case api.Global:
		return mach.PtrOf(m.blocks[x.Name], 0)
	case api.Frame:
		return mach.PtrOf(a.frame, int64(x.Off))
	case api.Load:
		at := m.eval(a, x.Addr)
		return m.load(x.Chunk, mach.PtrOf(at.Block, int64(at.Bits)+int64(x.Off)))
	case api.Op1:
		v, ok := mach.Eval1(x.Op, m.eval(a, x.X))
		m.need(ok)
		return v
	case api.Op2:
		p := m.parts(a, x.X, x.Y)
		return m.eval2(x.Op, p[0], p[1])
	case api.OpI:
		n := mach.IntOf(int32(x.N))
		if _, k, _ := mach.Shape(x.Op); k == api.Long {
			n = mach.LongOf(x.N)
		}
		return m.eval2(x.Op, m.eval(a, x.X), n)
	case api.Assign:
		p := m.parts(a, x.Addr, x.X)
		m.need(m.mem.Store(x.Chunk, p[0], p[1]))
		return p[1]
	case api.Modify:
		return m.modify(a, x)
	case api.Old:
		return a.olds[len(a.olds)-1]
	case api.Arg:
		return a.args[len(a.args)-1]
	case api.Cond:
		if m.truth(m.eval(a, x.X)) {
			return m.eval(a, x.Y)
		}
		return m.eval(a, x.Z)
	case api.And:
		return flag(m.truth(m.eval(a, x.X)) && m.truth(m.eval(a, x.Y)))
	case api.Or:
		return flag(m.truth(m.eval(a, x.X)) || m.truth(m.eval(a, x.Y)))
	case api.Comma:
		m.eval(a, x.X)
		return m.eval(a, x.Y)
	case api.Call:
		p := m.parts(a, append([]api.Expr{x.F}, x.Args...)...)
		return m.call(p[0], p[1:], x.Sig)
	}
	panic("no such expression")
}

func (m *model) eval2(op int, x, y api.Value) api.Value {
	v, ok := m.mem.Eval2(op, x, y)
	m.need(ok)
	return v
}

func (m *model) modify(a *inside, x api.Modify) api.Value {
	p := m.parts(a, x.Addr, x.Y)
	old := m.load(x.Chunk, p[0])
	a.olds, a.args = append(a.olds, old), append(a.args, p[1])
	v := m.eval(a, x.New)
	a.olds, a.args = a.olds[:len(a.olds)-1], a.args[:len(a.args)-1]
	m.need(m.mem.Store(x.Chunk, p[0], v))
	if x.Back {
		return old
	}
	return v
}
