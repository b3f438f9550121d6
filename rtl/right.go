package rtl

import (
	"slices"

	"alembic/api"
	"alembic/mach"
)

// judge tells what is right in a program, and in one of its functions.
type judge struct {
	names     map[string]struct{} // of all that the program has
	functions map[string]struct{} // of what can be called
	f         api.Graph
}

func newJudge(g api.Graphs) *judge {
	j := &judge{names: map[string]struct{}{}, functions: map[string]struct{}{}}
	for _, v := range g.Vars {
		j.names[v.Name] = struct{}{}
	}
	for _, e := range g.Externs {
		j.functions[e.Name] = struct{}{}
	}
	for _, f := range g.Funcs {
		j.functions[f.Name] = struct{}{}
	}
	for name := range j.functions {
		j.names[name] = struct{}{}
	}
	return j
}

func has(names map[string]struct{}, name string) bool {
	_, ok := names[name]
	return ok
}

func isKind(kind int) bool { return kind == api.Int || kind == api.Long || kind == api.Double }

func isResult(kind int) bool { return kind == 0 || isKind(kind) }

// function tells whether a function is right.
func (j *judge) function(f api.Graph) bool {
	j.f = f
	return j.registers() && f.Frame >= 0 && f.Frame <= api.MaxFrame && j.isNumber(f.Entry) && !slices.ContainsFunc(f.Code, func(i api.Instr) bool { return !j.instr(i) })
}

// registers tells whether the registers and the parameters are right.
func (j *judge) registers() bool {
	seen := map[int]struct{}{}
	for _, r := range j.f.Params {
		seen[r] = struct{}{}
	}
	return !slices.ContainsFunc(j.f.Kinds, func(kind int) bool { return !isKind(kind) }) && len(seen) == len(j.f.Params) && j.are(j.f.Params, j.f.Sig.Params...)
}

func (j *judge) isNumber(n int) bool { return n >= 0 && n < len(j.f.Code) }

// kind is a register's, 0 of one that isn't there.
func (j *judge) kind(register int) int {
	if register < 0 || register >= len(j.f.Kinds) {
		return 0
	}
	return j.f.Kinds[register]
}

// is tells whether a register is there, and of a kind.
func (j *judge) is(register, kind int) bool { return kind != 0 && j.kind(register) == kind }

// are tells whether registers are of these kinds, one by one.
func (j *judge) are(registers []int, kinds ...int) bool {
	if len(registers) != len(kinds) {
		return false
	}
	for n, r := range registers {
		if !j.is(r, kinds[n]) {
			return false
		}
	}
	return true
}

// instr tells whether an instruction is right.
func (j *judge) instr(i api.Instr) bool {
	if !isBare(i) {
		return false
	}
	goesOn := j.isNumber(i.Next)
	switch i.Kind {
	case api.INop:
		return goesOn && j.are(i.Args)
	case api.IOp:
		return goesOn && j.operation(i)
	case api.ILoad:
		return goesOn && j.are(i.Args, api.Long) && j.is(i.Dst, mach.Kind(i.Chunk))
	case api.IStore:
		return goesOn && j.are(i.Args, api.Long, mach.Kind(i.Chunk))
	case api.ICall:
		return goesOn && j.call(i) && (i.Dst == -1 && isResult(i.Sig.Result) || j.is(i.Dst, i.Sig.Result))
	case api.ITail:
		return j.call(i) && isResult(i.Sig.Result) && i.Sig.Result == j.f.Sig.Result
	case api.ICond:
		return goesOn && j.isNumber(i.Else) && j.are(i.Args, api.Int)
	case api.IReturn:
		return len(i.Args) == 0 || j.are(i.Args, j.f.Sig.Result)
	}
	return false
}

// call tells whether what is called, and with what, is right.
func (j *judge) call(i api.Instr) bool {
	if i.Sym == "" {
		return j.are(i.Args, append([]int{api.Long}, i.Sig.Params...)...)
	}
	return has(j.functions, i.Sym) && j.are(i.Args, i.Sig.Params...)
}

// operation tells whether an IOp's Args and Dst are those of its Op.
func (j *judge) operation(i api.Instr) bool {
	switch i.Op {
	case api.OpMove:
		return len(i.Args) == 1 && j.is(i.Dst, j.kind(i.Args[0]))
	case api.OpNum:
		return j.are(i.Args) && mach.Right(i.V) && j.is(i.Dst, i.V.Kind)
	case api.OpGlobal:
		return j.are(i.Args) && has(j.names, i.Sym) && j.is(i.Dst, api.Long)
	case api.OpFrame:
		return j.are(i.Args) && i.Off >= 0 && i.Off <= j.f.Frame && j.is(i.Dst, api.Long)
	case api.OpTruth, api.OpFalse:
		return (j.are(i.Args, api.Int) || j.are(i.Args, api.Long)) && j.is(i.Dst, api.Int)
	}
	return j.shaped(i)
}

// shaped tells whether the Args and the Dst of an operation of one or two, or of one and a number, have its shape.
func (j *judge) shaped(i api.Instr) bool {
	op, withNumber := i.Op, i.Op > api.WithN
	if withNumber {
		op -= api.WithN
	}
	x, y, r := mach.Shape(op)
	switch {
	case !j.is(i.Dst, r):
		return false
	case withNumber:
		return (y == api.Int || y == api.Long) && j.are(i.Args, x)
	case y == 0:
		return j.are(i.Args, x)
	}
	return j.are(i.Args, x, y)
}
