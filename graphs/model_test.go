package graphs

import (
	"slices"

	"alembic/api"
	"alembic/mach"
	"alembic/memory"
	"alembic/trace"
)

// model does what a program says, call within call, as the document tells it.
type model struct {
	mem         *memory.Memory
	blocks      map[string]int
	externs     map[int]api.Extern
	funcs       map[int]api.Graph
	script      []int64
	fuel, steps int
	trace       []api.Event
}

// stop ends a run.
type stop struct {
	status int
	code   int32
}

// modelRun is what Run must answer.
func modelRun(g api.Graphs, script []int64, fuel int) (o api.Outcome) {
	m := &model{mem: memory.New(), blocks: map[string]int{}, externs: map[int]api.Extern{}, funcs: map[int]api.Graph{}, script: script, fuel: min(max(fuel, 0), api.MaxFuel)}
	defer func() {
		s := recover().(stop)
		o = api.Outcome{Trace: m.trace, Status: s.status, Code: s.code, Steps: m.steps}
	}()
	m.begin(g)
	for _, f := range g.Funcs {
		if f.Name == "main" {
			v := m.enter(f, nil)
			m.need(v.Kind == api.Int)
			panic(stop{status: api.Exited, code: int32(v.Bits)})
		}
	}
	panic(stop{status: api.Wrong})
}

func (m *model) need(holds bool) {
	if !holds {
		panic(stop{status: api.Wrong})
	}
}

func (m *model) begin(g api.Graphs) {
	for _, v := range g.Vars {
		m.blocks[v.Name] = m.mem.Alloc(v.Size)
		for i := range v.Size {
			m.mem.Store(api.C8U, mach.PtrOf(m.blocks[v.Name], int64(i)), i32(0))
		}
	}
	for _, e := range g.Externs {
		m.blocks[e.Name] = m.mem.Alloc(1)
		m.externs[m.blocks[e.Name]] = e
	}
	for _, f := range g.Funcs {
		m.blocks[f.Name] = m.mem.Alloc(1)
		m.funcs[m.blocks[f.Name]] = f
	}
	for _, v := range g.Vars {
		for _, d := range v.Init {
			x := d.V
			if d.Sym != "" {
				x = mach.PtrOf(m.blocks[d.Sym], int64(d.Off))
			}
			m.need(m.mem.Store(d.Chunk, mach.PtrOf(m.blocks[v.Name], int64(d.At)), x))
		}
		if v.Fixed {
			m.mem.Fix(m.blocks[v.Name])
		}
	}
	for b := range m.externs {
		m.mem.Fix(b)
	}
	for b := range m.funcs {
		m.mem.Fix(b)
	}
}

// call is what a call answers.
func (m *model) call(i api.Instr, args []api.Value) api.Value {
	at := mach.PtrOf(m.blocks[i.Sym], 0)
	if i.Sym == "" {
		at, args = args[0], args[1:]
	}
	m.need(at.Kind == api.Ptr && at.Bits == 0)
	if e, ok := m.externs[at.Block]; ok {
		m.need(e.Sig.Result == i.Sig.Result && slices.Equal(e.Sig.Params, i.Sig.Params))
		event, ok := trace.Call(e.Name, e.Sig, args, m.script, len(m.trace))
		m.need(ok)
		m.trace = append(m.trace, event)
		return event.Result
	}
	f, ok := m.funcs[at.Block]
	m.need(ok && f.Sig.Result == i.Sig.Result && slices.Equal(f.Sig.Params, i.Sig.Params))
	return m.enter(f, args)
}

// enter is what a function returns.
func (m *model) enter(f api.Graph, args []api.Value) api.Value {
	m.need(len(args) == len(f.Params))
	block := m.mem.Alloc(f.Frame)
	registers := make([]api.Value, len(f.Kinds))
	for i, p := range f.Params {
		registers[p] = args[i]
	}
	for at := f.Entry; ; {
		if m.steps == m.fuel {
			panic(stop{status: api.Running})
		}
		m.steps++
		i := f.Code[at]
		var args []api.Value
		for _, r := range i.Args {
			args = append(args, registers[r])
		}
		at = i.Next
		switch i.Kind {
		case api.IOp:
			registers[i.Dst] = m.operation(i, args, block)
		case api.ILoad:
			v, ok := m.mem.Load(i.Chunk, m.behind(args[0], i.Off))
			m.need(ok)
			registers[i.Dst] = v
		case api.IStore:
			m.need(m.mem.Store(i.Chunk, m.behind(args[0], i.Off), args[1]))
		case api.ICall:
			if v := m.call(i, args); i.Dst != -1 {
				registers[i.Dst] = v
			}
		case api.ITail:
			m.mem.Free(block)
			return m.call(i, args)
		case api.ICond:
			yes, ok := mach.Truth(args[0])
			m.need(ok)
			if !yes {
				at = i.Else
			}
		case api.IReturn:
			m.mem.Free(block)
			return append(args, api.Value{})[0]
		}
	}
}

func (m *model) behind(at api.Value, off int) api.Value {
	m.need(at.Kind == api.Ptr)
	return mach.PtrOf(at.Block, int64(at.Bits)+int64(off))
}

func (m *model) operation(i api.Instr, args []api.Value, block int) api.Value {
	switch i.Op {
	case api.OpMove:
		return args[0]
	case api.OpNum:
		return i.V
	case api.OpGlobal:
		return mach.PtrOf(m.blocks[i.Sym], int64(i.Off))
	case api.OpFrame:
		return mach.PtrOf(block, int64(i.Off))
	}
	if len(args) == 1 && i.Op < api.WithN {
		v, ok := mach.Eval1(i.Op, args[0])
		m.need(ok)
		return v
	}
	if i.Op >= api.WithN {
		i.Op -= api.WithN
		second := i64(i.N)
		if _, kind, _ := mach.Shape(i.Op); kind == api.Int {
			second = i32(int32(i.N))
		}
		args = append(args, second)
	}
	v, ok := m.mem.Eval2(i.Op, args[0], args[1])
	m.need(ok)
	return v
}
