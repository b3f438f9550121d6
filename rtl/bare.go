package rtl

import (
	"alembic/api"
)

// isBare tells whether all of an instruction is zero that one of its kind has no use for. (Its Args are looked at by their kinds.)
func isBare(i api.Instr) bool {
	used := api.Instr{Next: i.Next}
	switch i.Kind {
	case api.IOp:
		used = usedByOp(i)
	case api.ILoad:
		used.Chunk, used.Off, used.Dst = i.Chunk, i.Off, i.Dst
	case api.IStore:
		used.Chunk, used.Off = i.Chunk, i.Off
	case api.ICall:
		used.Sym, used.Sig, used.Dst = i.Sym, i.Sig, i.Dst
	case api.ITail:
		used = api.Instr{Sym: i.Sym, Sig: i.Sig}
	case api.ICond:
		used.Else = i.Else
	case api.IReturn:
		used.Next = 0
	}
	return isSame(i, used)
}

// usedByOp is what an IOp has a use for.
func usedByOp(i api.Instr) api.Instr {
	used := api.Instr{Op: i.Op, Dst: i.Dst, Next: i.Next}
	switch {
	case i.Op == api.OpNum:
		used.V = i.V
	case i.Op == api.OpGlobal:
		used.Sym, used.Off = i.Sym, i.Off
	case i.Op == api.OpFrame:
		used.Off = i.Off
	case i.Op > api.WithN:
		used.N = i.N
	}
	return used
}

// isSame tells whether two instructions are the same in all but their kind and Args.
func isSame(a, b api.Instr) bool {
	return a.Op == b.Op && a.N == b.N && a.V == b.V && a.Dst == b.Dst && a.Chunk == b.Chunk && a.Off == b.Off && a.Sym == b.Sym && sameSig(a.Sig, b.Sig) && a.Next == b.Next && a.Else == b.Else
}

func sameSig(a, b api.Sig) bool { return a.Result == b.Result && len(a.Params) == len(b.Params) }
