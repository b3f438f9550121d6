package world

import (
	"alembic/api"
	"alembic/mach"
	"alembic/memory"
)

// Room makes a block of so many bytes, and answers its address.
func (w *World) Room(size int) api.Value { return mach.PtrOf(w.mem.Alloc(size), 0) }

// Free frees the block of an address; what is no block's is none.
func (w *World) Free(at api.Value) { w.mem.Free(at.Block) }

// Load is what stands so many bytes behind an address.
func (w *World) Load(chunk int, at api.Value, off int) (api.Value, bool) {
	at = Behind(at, off)
	w.zeros.lay(at)
	return w.mem.Load(chunk, at)
}

// Store puts a value so many bytes behind an address.
func (w *World) Store(chunk int, at api.Value, off int, v api.Value) bool {
	at = Behind(at, off)
	w.zeros.lay(at)
	return w.mem.Store(chunk, at, v)
}

// Behind is an address so many bytes behind another one; what is no address stays so.
func Behind(at api.Value, off int) api.Value {
	if at.Kind == api.Ptr {
		at.Bits += uint64(off)
	}
	return at
}

// Eval2 is an operation of two.
func (w *World) Eval2(op int, x, y api.Value) (api.Value, bool) { return w.mem.Eval2(op, x, y) }

// Number is a number as the second operand of an operation.
func Number(op int, n int64) (api.Value, bool) {
	switch _, kind, _ := mach.Shape(op); kind {
	case api.Int:
		return mach.IntOf(int32(n)), true
	case api.Long:
		return mach.LongOf(n), true
	}
	return api.Value{}, false
}

// zeros lets the bytes of variables be 0. They are laid a piece at a time, ahead of the first access, so that a great variable costs no more than what is used of it.
type zeros struct {
	mem  *memory.Memory
	vars int // the blocks up to this number are the variables'
	laid map[piece]struct{}
}

// piece is so many bytes of a block, the n-th ones.
type piece struct{ block, n int }

// pieceSize is a multiple of each chunk's size, so that an access lies within one piece.
const pieceSize = 256

// lay makes the bytes of the piece 0 in which an address is, if that is a variable's and wasn't laid.
func (z *zeros) lay(at api.Value) {
	if at.Kind != api.Ptr || at.Block > z.vars {
		return
	}
	size, _ := z.mem.Size(at.Block)
	off := int(at.Bits)
	if off < 0 || off >= size {
		return
	}
	p := piece{at.Block, off / pieceSize}
	if _, done := z.laid[p]; done {
		return
	}
	z.laid[p] = struct{}{}
	z.clear(at.Block, p.n*pieceSize, min(size, (p.n+1)*pieceSize))
}

// layAll makes all bytes of a block 0 that weren't laid.
func (z *zeros) layAll(block int) {
	size, _ := z.mem.Size(block)
	for off := 0; off < size; off += pieceSize {
		z.lay(mach.PtrOf(block, int64(off)))
	}
}

func (z *zeros) clear(block, from, to int) {
	for ; from+8 <= to; from += 8 {
		z.mem.Store(api.C64, mach.PtrOf(block, int64(from)), mach.LongOf(0))
	}
	for ; from < to; from++ {
		z.mem.Store(api.C8U, mach.PtrOf(block, int64(from)), mach.IntOf(0))
	}
}
