package graphs

import (
	"fmt"
	"reflect"
	"slices"
	"strings"

	"alembic/api"
	"alembic/mach"
)

// judge looks whether a program is right RTL, as the document has it; what isn't, it puts into faults.
type judge struct {
	g      api.Graphs
	f      api.Graph
	faults []string
}

// faultsOf tells what isn't right in a program.
func faultsOf(g api.Graphs) []string {
	j := &judge{g: g}
	for _, f := range g.Funcs {
		j.function(f)
	}
	return j.faults
}

func (j *judge) need(holds bool, format string, args ...any) {
	if !holds {
		j.faults = append(j.faults, j.f.Name+": "+fmt.Sprintf(format, args...))
	}
}

func (j *judge) function(f api.Graph) {
	j.f = f
	for _, k := range f.Kinds {
		j.need(k >= api.Int && k <= api.Double, "a register of the kind %d", k)
	}
	j.need(len(f.Params) == len(f.Sig.Params), "%d parameters", len(f.Params))
	for n, r := range f.Params {
		j.need(!slices.Contains(f.Params[:n], r), "parameter %d twice", r)
		if n < len(f.Sig.Params) {
			j.is(r, f.Sig.Params[n])
		}
	}
	j.need(f.Frame >= 0 && f.Frame <= 1<<24, "%d bytes", f.Frame)
	j.number(f.Entry)
	for _, i := range f.Code {
		before := len(j.faults)
		j.instr(i)
		for n := range j.faults[before:] {
			j.faults[before+n] += fmt.Sprintf(" in %+v", i)
		}
	}
}

func (j *judge) number(n int) { j.need(n >= 0 && n < len(j.f.Code), "no instruction %d", n) }

// kind is a register's.
func (j *judge) kind(r int) int {
	if r < 0 || r >= len(j.f.Kinds) {
		return -1
	}
	return j.f.Kinds[r]
}

func (j *judge) is(r, kind int) {
	j.need(j.kind(r) == kind, "register %d is of the kind %d, not %d", r, j.kind(r), kind)
}

// args asks for the kinds of the Args, and that all fields are zero but those that are named.
func (j *judge) args(i api.Instr, kinds []int, fields string) {
	j.need(len(i.Args) == len(kinds), "%d Args", len(i.Args))
	for n, r := range i.Args {
		if n < len(kinds) {
			j.is(r, kinds[n])
		}
	}
	v := reflect.ValueOf(i)
	if len(i.Sig.Params) == 0 {
		i.Sig.Params = nil
		v = reflect.ValueOf(i)
	}
	for n := range v.NumField() {
		if name := v.Type().Field(n).Name; !slices.Contains(strings.Fields("Kind Args "+fields), name) {
			j.need(v.Field(n).IsZero(), "%s is %v", name, v.Field(n))
		}
	}
}

func (j *judge) instr(i api.Instr) {
	l := api.Long
	switch i.Kind {
	case api.INop:
		j.args(i, nil, "Next")
	case api.IOp:
		j.operation(i)
	case api.ILoad:
		j.args(i, []int{l}, "Chunk Off Dst Next")
		j.need(i.Chunk >= api.C8S && i.Chunk <= api.CF64, "chunk %d", i.Chunk)
		j.is(i.Dst, mach.Kind(i.Chunk))
	case api.IStore:
		j.args(i, []int{l, mach.Kind(i.Chunk)}, "Chunk Off Next")
		j.need(i.Chunk >= api.C8S && i.Chunk <= api.CF64, "chunk %d", i.Chunk)
	case api.ICall:
		j.call(i, "Sig Sym Dst Next")
		if i.Dst != -1 {
			j.is(i.Dst, i.Sig.Result)
		}
	case api.ITail:
		j.call(i, "Sig Sym")
		j.need(i.Sig.Result == j.f.Sig.Result, "a result of the kind %d", i.Sig.Result)
		return
	case api.ICond:
		j.args(i, []int{api.Int}, "Next Else")
		j.number(i.Else)
	case api.IReturn:
		if len(i.Args) > 0 {
			j.args(i, []int{j.f.Sig.Result}, "")
		} else {
			j.args(i, nil, "")
		}
		return
	default:
		j.need(false, "no kind")
	}
	j.number(i.Next)
}

func (j *judge) call(i api.Instr, fields string) {
	kinds := i.Sig.Params
	if i.Sym == "" {
		kinds = append([]int{api.Long}, kinds...)
	} else {
		j.need(slices.ContainsFunc(j.g.Externs, func(e api.Extern) bool { return e.Name == i.Sym }) || slices.ContainsFunc(j.g.Funcs, func(f api.Graph) bool { return f.Name == i.Sym }), "no function %s", i.Sym)
	}
	for _, k := range i.Sig.Params {
		j.need(k >= api.Int && k <= api.Double, "a parameter of the kind %d", k)
	}
	j.need(i.Sig.Result >= 0 && i.Sig.Result <= api.Double, "a result of the kind %d", i.Sig.Result)
	j.args(i, kinds, fields)
}

func (j *judge) operation(i api.Instr) {
	switch i.Op {
	case api.OpMove:
		j.args(i, []int{j.kind(i.Dst)}, "Op Dst Next")
	case api.OpNum:
		j.args(i, nil, "Op V Dst Next")
		j.need(mach.Right(i.V), "%v isn't right", i.V)
		j.is(i.Dst, i.V.Kind)
	case api.OpGlobal:
		j.args(i, nil, "Op Sym Off Dst Next")
		var names []string
		for _, v := range j.g.Vars {
			names = append(names, v.Name)
		}
		for _, e := range j.g.Externs {
			names = append(names, e.Name)
		}
		for _, f := range j.g.Funcs {
			names = append(names, f.Name)
		}
		j.need(slices.Contains(names, i.Sym), "no %s", i.Sym)
		j.is(i.Dst, api.Long)
	case api.OpFrame:
		j.args(i, nil, "Op Off Dst Next")
		j.need(i.Off >= 0 && i.Off <= j.f.Frame, "%d in the frame", i.Off)
		j.is(i.Dst, api.Long)
	case api.OpTruth, api.OpFalse:
		kind := api.Int
		if len(i.Args) == 1 && j.kind(i.Args[0]) == api.Long {
			kind = api.Long
		}
		j.args(i, []int{kind}, "Op Dst Next")
		j.is(i.Dst, api.Int)
	default:
		x, y, r := mach.Shape(i.Op)
		kinds, fields := []int{x, y}, "Op Dst Next"
		if y == 0 {
			kinds = kinds[:1]
		}
		if i.Op >= api.WithN {
			x, y, r = mach.Shape(i.Op - api.WithN)
			j.need(y == api.Int || y == api.Long, "a second of the kind %d", y)
			kinds, fields = []int{x}, "Op N Dst Next"
		}
		j.need(r != 0, "no operation")
		j.args(i, kinds, fields)
		j.is(i.Dst, r)
	}
}
