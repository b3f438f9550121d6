package core

import (
	"alembic/api"
	"alembic/mach"
	"alembic/memory"
)

// begin lays the variables and functions of a unit.
func (m *machine) begin(u api.Unit) {
	for _, v := range u.Vars {
		m.zeros.vars = max(m.zeros.vars, m.symbol(v.Name, v.Size))
	}
	for _, e := range u.Externs {
		m.functions[m.functionBlock(e.Name)] = function{sig: e.Sig, call: outside(e).call}
	}
	for _, f := range u.Funcs {
		c := &code{f: f}
		m.functions[m.functionBlock(f.Name)] = function{sig: f.Sig, call: c.enter}
		if f.Name == "main" {
			m.main = c
		}
	}
	for _, v := range u.Vars {
		m.variable(v)
	}
}

// symbol makes the block that a name stands for.
func (m *machine) symbol(name string, size int) int {
	b := m.mem.Alloc(size)
	m.symbols[name] = b
	return b
}

func (m *machine) functionBlock(name string) int {
	b := m.symbol(name, 1)
	m.mem.Fix(b)
	return b
}

// variable stores a variable's beginning.
func (m *machine) variable(v api.Var) {
	b := m.symbols[v.Name]
	for _, d := range v.Init {
		m.store(d.Chunk, mach.PtrOf(b, int64(d.At)), m.datum(d))
	}
	if v.Fixed {
		m.zeros.layAll(b)
		m.mem.Fix(b)
	}
}

func (m *machine) datum(d api.Datum) api.Value {
	if d.Sym == "" {
		return d.V
	}
	return mach.PtrOf(m.symbols[d.Sym], int64(d.Off))
}

// zeros lets the bytes of variables be 0. They are laid a piece at a time, ahead of the first access, so that a great variable costs no more than what is used of it.
type zeros struct {
	mem  *memory.Memory
	vars int // the blocks up to this number are the variables'
	laid map[piece]struct{}
}

// piece is so many bytes of a block, the n-th ones.
type piece struct{ block, n int }

// pieceSize is a multiple of each chunk's size, so that an access lies within one piece.
const pieceSize = 256

// lay makes the bytes of the piece 0 in which an address is, if that is a variable's and wasn't laid.
func (z *zeros) lay(at api.Value) {
	if at.Kind != api.Ptr || at.Block > z.vars {
		return
	}
	size, _ := z.mem.Size(at.Block)
	off := int(at.Bits)
	if off < 0 || off >= size {
		return
	}
	p := piece{at.Block, off / pieceSize}
	if _, done := z.laid[p]; done {
		return
	}
	z.laid[p] = struct{}{}
	z.clear(at.Block, p.n*pieceSize, min(size, (p.n+1)*pieceSize))
}

// layAll makes all bytes of a block 0 that weren't laid.
func (z *zeros) layAll(block int) {
	size, _ := z.mem.Size(block)
	for off := 0; off < size; off += pieceSize {
		z.lay(mach.PtrOf(block, int64(off)))
	}
}

func (z *zeros) clear(block, from, to int) {
	for ; from+8 <= to; from += 8 {
		z.mem.Store(api.C64, mach.PtrOf(block, int64(from)), mach.LongOf(0))
	}
	for ; from < to; from++ {
		z.mem.Store(api.C8U, mach.PtrOf(block, int64(from)), mach.IntOf(0))
	}
}
