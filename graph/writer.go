package graph

import (
	"slices"

	"alembic/api"
	"alembic/mach"
)

// writer writes a function's RTL from its end on: what an instruction goes on to is written ahead of it.
type writer struct {
	f          api.Func
	functions  map[string]struct{} // the names of the unit's functions
	g          api.Graph
	temps      map[int]variable
	labels     map[string]int // the spots that they are
	out, again int            // where Break and Continue go
}

func newWriter(f api.Func, functions map[string]struct{}) *writer {
	w := &writer{f: f, functions: functions, temps: map[int]variable{}, labels: map[string]int{}}
	w.g = api.Graph{Name: f.Name, Sig: f.Sig, Frame: f.Frame}
	s := settingsOf(f)
	for n, kinds := range s.all() {
		w.temps[s.temps[n]] = w.newVariable(kinds)
	}
	return w
}

// function is the whole function's graph.
func (w *writer) function() api.Graph {
	end := w.add(api.Instr{Kind: api.IReturn})
	w.out, w.again = end, end
	w.g.Entry = w.params(w.list(w.f.Body, end))
	return w.g
}

// params gives the parameters their registers; of several ones that are one temporary the last counts.
func (w *writer) params(next int) int {
	kinds := w.f.Sig.Params
	w.g.Params = make([]int, len(kinds))
	for i, k := range slices.Backward(kinds) {
		var v variable
		if i < len(w.f.Params) && !slices.Contains(w.f.Params[i+1:], w.f.Params[i]) {
			v = w.temps[-1-w.f.Params[i]]
		}
		w.g.Params[i] = w.where(v, k)
		next = w.became(v, k, next)
	}
	return next
}

// add writes an instruction, and answers its number.
func (w *writer) add(i api.Instr) int {
	w.g.Code = append(w.g.Code, i)
	return len(w.g.Code) - 1
}

// spot is a place that is gone to ahead of its being known what stands there.
func (w *writer) spot() int {
	n := w.add(api.Instr{Kind: api.INop})
	w.lay(n, n)
	return n
}

// lay lets a spot be where this is.
func (w *writer) lay(spot, next int) { w.g.Code[spot].Next = next }

// label is the spot of a label.
func (w *writer) label(name string) int {
	n, ok := w.labels[name]
	if !ok {
		n = w.spot()
		w.labels[name] = n
	}
	return n
}

// register is a new register, undefined till it is set.
func (w *writer) register(kind int) int {
	w.g.Kinds = append(w.g.Kinds, kind)
	return len(w.g.Kinds) - 1
}

// move sets a register to what another one is.
func (w *writer) move(from, to, next int) int {
	return w.add(api.Instr{Kind: api.IOp, Op: api.OpMove, Args: []int{from}, Dst: to, Next: next})
}

// number sets a register to a number.
func (w *writer) number(v api.Value, to, next int) int {
	return w.add(api.Instr{Kind: api.IOp, Op: api.OpNum, V: v, Dst: to, Next: next})
}

// variable is where a temporary's value stands: in the register of its kind. A temporary that may be of several kinds has its other registers undefined meanwhile, and one that tells which kind it is.
type variable struct {
	kinds []int
	at    map[int]int // registers, by their kinds
	which int
}

func (v variable) isMixed() bool { return len(v.kinds) > 1 }

func (w *writer) newVariable(kinds []int) variable {
	v := variable{kinds: kinds, at: map[int]int{}}
	for _, k := range kinds {
		v.at[k] = w.register(k)
	}
	if v.isMixed() {
		v.which = w.register(api.Int)
	}
	return v
}

// where is the register that has a variable's value, if that is of a kind; else an undefined one.
func (w *writer) where(v variable, kind int) int {
	if at, ok := v.at[kind]; ok {
		return at
	}
	return w.register(kind)
}

// became is what is done behind setting the register of a kind, so that the variable is of that kind.
func (w *writer) became(v variable, kind, next int) int {
	if !v.isMixed() {
		return next
	}
	for _, k := range v.kinds {
		if k != kind {
			next = w.move(w.register(k), v.at[k], next)
		}
	}
	return w.number(mach.IntOf(int32(kind)), v.which, next)
}

// copy sets a variable to what another one is.
func (w *writer) copy(to, from variable, next int) int {
	for _, k := range to.kinds {
		next = w.move(w.where(from, k), to.at[k], next)
	}
	switch {
	case to.isMixed() && from.isMixed():
		return w.move(from.which, to.which, next)
	case to.isMixed() && len(from.kinds) == 1:
		return w.number(mach.IntOf(int32(from.kinds[0])), to.which, next)
	}
	return next
}
