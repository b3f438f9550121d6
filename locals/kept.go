package locals

import (
	"alembic/api"
)

// Kept tells of each local whether it stays in memory.
func Kept(f api.Func) []bool {
	k := &keeper{slots: f.Locals, kept: make([]bool, len(f.Locals))}
	for n, s := range f.Locals {
		k.kept[n] = !isWhole(s.Chunk)
	}
	k.list(f.Body)
	return k.kept
}

// isWhole tells whether a chunk loads just what it stored, as a temporary does: less than an Int is cut off and extended.
func isWhole(chunk int) bool {
	return chunk == api.C32 || chunk == api.C64 || chunk == api.CF64
}

// keeper finds the locals that stay in memory.
type keeper struct {
	slots []api.Slot
	kept  []bool
}

func (k *keeper) list(list []api.Stmt) {
	for _, s := range list {
		k.stmt(s)
	}
}

func (k *keeper) stmt(s api.Stmt) {
	switch x := s.View().(type) {
	case api.Set:
		k.expr(x.X)
	case api.Put:
		k.access(x.Chunk, x.Addr)
		k.expr(x.X)
	case api.Invoke:
		k.expr(x.F)
		k.exprs(x.Args)
	case api.If:
		k.expr(x.X)
		k.list(x.Then)
		k.list(x.Else)
	case api.Loop:
		k.expr(x.Test)
		k.list(x.Body)
		k.list(x.Step)
	case api.Switch:
		k.expr(x.X)
		for _, i := range x.Items {
			k.stmt(i.S)
		}
	case api.Return:
		k.expr(x.X)
	case api.Block:
		k.list(x.List)
	}
}

func (k *keeper) exprs(list []api.Expr) {
	for _, e := range list {
		k.expr(e)
	}
}

// expr keeps the locals whose address an expression has, but to load what stands there.
func (k *keeper) expr(e api.Expr) {
	switch x := e.View().(type) {
	case api.Local:
		if k.has(x.N) {
			k.kept[x.N] = true
		}
	case api.Load:
		k.access(x.Chunk, x.Addr)
	case api.Op1:
		k.expr(x.X)
	case api.Op2:
		k.expr(x.X)
		k.expr(x.Y)
	}
}

// access keeps the locals whose address another one has, at which a chunk is loaded or stored; but not the one that is just this chunk there.
func (k *keeper) access(chunk int, at api.Expr) {
	if l, ok := at.View().(api.Local); ok && k.has(l.N) && k.slots[l.N].Chunk == chunk {
		return
	}
	k.expr(at)
}

func (k *keeper) has(n int) bool { return n >= 0 && n < len(k.slots) }
