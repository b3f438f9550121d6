// Package graphs has the tests that the layers over RTL have in common.
package graphs

import (
	"fmt"
	"strings"
	"testing"

	"alembic/api"
	"alembic/mach"
	"alembic/rtl"
	"alembic/trace"
)

// shown is an outcome in one line: what it shows, and its steps.
func shown(o api.Outcome) string {
	return strings.ReplaceAll(strings.TrimSpace(trace.Text(o)), "\n", "; ") + fmt.Sprintf(" [%d]", o.Steps)
}

// What code is made of, in few letters. Where nothing is said, an instruction goes on to the one behind it.

func i32(n int32) api.Value  { return mach.IntOf(n) }
func i64(n int64) api.Value  { return mach.LongOf(n) }
func f64(n uint64) api.Value { return mach.DoubleOf(n) }

func nop() api.Instr { return api.Instr{Kind: api.INop} }

func num(dst int, v api.Value) api.Instr {
	return api.Instr{Kind: api.IOp, Op: api.OpNum, V: v, Dst: dst}
}

func op(dst, o int, args ...int) api.Instr {
	return api.Instr{Kind: api.IOp, Op: o, Args: args, Dst: dst}
}

func opN(dst, o, arg int, n int64) api.Instr {
	return api.Instr{Kind: api.IOp, Op: o + api.WithN, Args: []int{arg}, N: n, Dst: dst}
}

func global(dst int, sym string, off int) api.Instr {
	return api.Instr{Kind: api.IOp, Op: api.OpGlobal, Sym: sym, Off: off, Dst: dst}
}

func frame(dst, off int) api.Instr {
	return api.Instr{Kind: api.IOp, Op: api.OpFrame, Off: off, Dst: dst}
}

func load(dst, chunk, at, off int) api.Instr {
	return api.Instr{Kind: api.ILoad, Chunk: chunk, Args: []int{at}, Off: off, Dst: dst}
}

func store(chunk, at, off, v int) api.Instr {
	return api.Instr{Kind: api.IStore, Chunk: chunk, Args: []int{at, v}, Off: off}
}

// call calls a function by its name, or, where that is empty, by the address in the first of the registers.
func call(dst int, sym, sig string, args ...int) api.Instr {
	return api.Instr{Kind: api.ICall, Sym: sym, Sig: sigOf(sig), Args: args, Dst: dst}
}

func tail(sym, sig string, args ...int) api.Instr {
	return api.Instr{Kind: api.ITail, Sym: sym, Sig: sigOf(sig), Args: args}
}

func cond(arg, yes, no int) api.Instr {
	return api.Instr{Kind: api.ICond, Args: []int{arg}, Next: yes, Else: no}
}

func ret(args ...int) api.Instr { return api.Instr{Kind: api.IReturn, Args: args} }

// to goes on to another instruction.
func to(next int, i api.Instr) api.Instr {
	i.Next = next + 1<<20 // so that it isn't taken as none
	return i
}

// kindsOf are kinds: a letter each, v for none.
func kindsOf(letters string) []int {
	var kinds []int
	for _, c := range letters {
		kinds = append(kinds, strings.IndexRune("vild", c))
	}
	return kinds
}

// sigOf is a signature: a letter for each parameter's kind and at last for the result's.
func sigOf(letters string) api.Sig {
	kinds := kindsOf(letters)
	last := len(kinds) - 1
	return api.Sig{Params: kinds[:last:last], Result: kinds[last]}
}

// function is a function whose parameters are the first registers, which begins with the first instruction.
func function(name, sig, kinds string, code ...api.Instr) api.Graph {
	f := api.Graph{Name: name, Sig: sigOf(sig), Kinds: kindsOf(kinds), Code: code}
	for i := range f.Sig.Params {
		f.Params = append(f.Params, i)
	}
	for n := range code {
		switch i := &f.Code[n]; {
		case i.Next >= 1<<20:
			i.Next -= 1 << 20
		case i.Kind != api.ICond && i.Kind != api.ITail && i.Kind != api.IReturn:
			i.Next = n + 1
		}
	}
	return f
}

// framed is a function with a frame.
func framed(bytes int, f api.Graph) api.Graph {
	f.Frame = bytes
	return f
}

// program is one of functions, with a function from outside for each kind of number, and one without a result, and a few variables.
func program(funcs ...api.Graph) api.Graphs {
	return api.Graphs{
		Vars: []api.Var{
			{Name: "gi", Size: 4, Align: 4, Init: []api.Datum{{Chunk: api.C32, V: i32(5)}}},
			{Name: "gl", Size: 8, Align: 8}, {Name: "gd", Size: 8, Align: 8},
			{Name: "ga", Size: 16, Align: 4, Init: []api.Datum{{At: 4, Chunk: api.C32, V: i32(-3)}}},
			{Name: "fp", Size: 8, Align: 8, Init: []api.Datum{{Chunk: api.C64, Sym: "f"}}},
			{Name: "text", Size: 3, Align: 1, Fixed: true, Init: []api.Datum{{Chunk: api.C8S, V: i32('h')}, {At: 1, Chunk: api.C8S, V: i32('i')}}},
		},
		Externs: []api.Extern{{Name: "int", Sig: sigOf("ii")}, {Name: "long", Sig: sigOf("ll")}, {Name: "double", Sig: sigOf("dd")}, {Name: "show", Sig: sigOf("iv")}, {Name: "stop", Sig: sigOf("v")}},
		Funcs:   funcs,
	}
}

// mainOf is a program of a main alone, with a frame of 16 bytes.
func mainOf(kinds string, code ...api.Instr) api.Graphs {
	return program(framed(16, function("main", "i", kinds, code...)))
}

// row is a program, and what is shown by its run with MaxFuel: the events and the end with strokes between, and the steps.
type row struct {
	what   string
	g      api.Graphs
	script []int64
	want   string
}

func wantAll(t *testing.T, rows []row) {
	t.Helper()
	for _, r := range rows {
		if !rtl.Right(r.g) || len(faultsOf(r.g)) > 0 {
			t.Errorf("%s isn't right: %s", r.what, strings.Join(faultsOf(r.g), "; "))
		}
		if got := shown(rtl.Run(r.g, r.script, api.MaxFuel)); got != r.want {
			t.Errorf("%s: %s, not %s", r.what, got, r.want)
		}
		if a, b := rtl.Run(r.g, r.script, api.MaxFuel), modelRun(r.g, r.script, api.MaxFuel); !sameOutcome(a, b) {
			t.Errorf("%s: %s, not as the model %s", r.what, shown(a), shown(b))
		}
	}
}

// sameOutcome tells whether two outcomes are the same in all.
func sameOutcome(a, b api.Outcome) bool { return trace.Same(a, b) && a.Steps == b.Steps }
