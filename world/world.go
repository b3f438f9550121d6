// Package world is what the runs of all languages stand in: a memory with a program's variables and functions, a script, the steps that are taken, and the events. The layers that say what languages mean share it.
package world

import (
	"slices"

	"alembic/api"
	"alembic/mach"
	"alembic/memory"
	"alembic/trace"
)

// World is what a run stands in. What has no meaning in it is answered by false.
type World struct {
	mem         *memory.Memory
	zeros       zeros
	names       map[string]int   // the blocks that names stand for
	functions   map[int]Function // by their blocks
	script      []int64
	fuel, taken int // how many steps may be taken, and were
	trace       []api.Event
}

// Function is what can be called.
type Function struct {
	Name string
	Sig  api.Sig
	N    int // its number among the program's functions, or Outside
}

// Outside is the number of each function from outside.
const Outside = -1

// New is a world without a program.
func New(script []int64, fuel int) *World {
	mem := memory.New()
	return &World{
		mem:       mem,
		zeros:     zeros{mem: mem, laid: map[piece]struct{}{}},
		names:     map[string]int{},
		functions: map[int]Function{},
		script:    script,
		fuel:      min(max(fuel, 0), api.MaxFuel),
	}
}

// Step takes one of the steps that the fuel allows; false, if it is used up.
func (w *World) Step() bool {
	if w.taken >= w.fuel {
		return false
	}
	w.taken++
	return true
}

// Taken is how many steps were taken.
func (w *World) Taken() int { return w.taken }

// Outcome is what the run has shown, when it ends so.
func (w *World) Outcome(status int, code int32) api.Outcome {
	return api.Outcome{Trace: w.trace, Status: status, Code: code, Steps: w.taken}
}

// Exit is how a run ends in which main's result is this.
func Exit(v api.Value) (status int, code int32) {
	if v.Kind != api.Int {
		return api.Wrong, 0
	}
	return api.Exited, int32(v.Bits)
}

// Address is the address of what a name stands for.
func (w *World) Address(name string) (api.Value, bool) {
	b, ok := w.names[name]
	return mach.PtrOf(b, 0), ok
}

// Main is the number of the program's function main.
func (w *World) Main() (int, bool) {
	f, ok := w.functions[w.names["main"]]
	return f.N, ok && f.N != Outside
}

// Called is the function at an address, as one of a signature.
func (w *World) Called(at api.Value, sig api.Sig) (Function, bool) {
	f, ok := w.functions[at.Block]
	return f, ok && at == mach.PtrOf(at.Block, 0) && sameSig(sig, f.Sig)
}

// sameSig tells whether two signatures have the same kinds.
func sameSig(a, b api.Sig) bool {
	return a.Result == b.Result && slices.Equal(a.Params, b.Params)
}

// Tell calls a function from outside: its answer, and the event stands in the trace.
func (w *World) Tell(f Function, args []api.Value) (api.Value, bool) {
	e, ok := trace.Call(f.Name, f.Sig, args, w.script, len(w.trace))
	if ok {
		w.trace = append(w.trace, e)
	}
	return e.Result, ok
}
