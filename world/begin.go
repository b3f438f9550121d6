package world

import (
	"alembic/api"
	"alembic/mach"
)

// Begin lays a program's variables and functions, and numbers its own functions.
func (w *World) Begin(vars []api.Var, externs []api.Extern, own []Function) bool {
	for _, v := range vars {
		w.zeros.vars = max(w.zeros.vars, w.name(v.Name, v.Size))
	}
	for _, e := range externs {
		w.function(Function{Name: e.Name, Sig: e.Sig, N: Outside})
	}
	for i, f := range own {
		w.function(Function{Name: f.Name, Sig: f.Sig, N: i})
	}
	for _, v := range vars {
		if !w.variable(v) {
			return false
		}
	}
	return true
}

// name makes the block that a name stands for.
func (w *World) name(name string, size int) int {
	b := w.mem.Alloc(size)
	w.names[name] = b
	return b
}

func (w *World) function(f Function) {
	b := w.name(f.Name, 1)
	w.mem.Fix(b)
	w.functions[b] = f
}

// variable stores a variable's beginning.
func (w *World) variable(v api.Var) bool {
	b := w.names[v.Name]
	for _, d := range v.Init {
		if !w.Store(d.Chunk, mach.PtrOf(b, 0), d.At, w.datum(d)) {
			return false
		}
	}
	if v.Fixed {
		w.zeros.layAll(b)
		w.mem.Fix(b)
	}
	return true
}

func (w *World) datum(d api.Datum) api.Value {
	if d.Sym == "" {
		return d.V
	}
	return mach.PtrOf(w.names[d.Sym], int64(d.Off))
}
