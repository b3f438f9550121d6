package memory

import (
	"alembic/api"
)

// pageSize is how many bytes are laid at once. It is a multiple of each chunk's size, so that an access lies within one page.
const pageSize = 1 << 12

// pieces is how many bytes a pointer takes.
const pieces = 8

// block is a row of bytes. A page of it is laid when a byte is first put there, so that a great block costs no more than what is used of it.
//
// A pointer stands at a multiple of 8, since every access's offset is a multiple of its size: so its pieces there are all in their order, or some of them are gone. What is left then loads no otherwise than empty bytes do, and is held as such.
type block struct {
	size     int
	fixed    bool
	pages    map[int][]cell
	pointers map[int]api.Value // by the offset of their first piece
}

// cell is a byte with the mark isByte, or 0: empty, or a piece of a pointer.
type cell uint16

const isByte cell = 1 << 8

// number is the number of n bytes, the lowest first; false, if one of them isn't a byte.
func (b *block) number(off, n int) (uint64, bool) {
	page, first := b.pages[off/pageSize], off%pageSize
	if page == nil {
		return 0, false
	}
	var bits uint64
	for i := range n {
		c := page[first+i]
		if c&isByte == 0 {
			return 0, false
		}
		bits |= uint64(byte(c)) << (8 * i)
	}
	return bits, true
}

// put lays the lowest n bytes of a number, the lowest first.
func (b *block) put(off, n int, bits uint64) {
	b.forget(off)
	page, first := b.page(off/pageSize), off%pageSize
	for i := range n {
		page[first+i] = isByte | cell(byte(bits>>(8*i)))
	}
}

// empty makes n bytes empty.
func (b *block) empty(off, n int) {
	b.forget(off)
	page, first := b.pages[off/pageSize], off%pageSize
	if page == nil {
		return
	}
	for i := range n {
		page[first+i] = 0
	}
}

// point lays the pieces of a pointer.
func (b *block) point(off int, p api.Value) {
	b.empty(off, pieces)
	if b.pointers == nil {
		b.pointers = map[int]api.Value{}
	}
	b.pointers[off] = p
}

// forget ends the pointer that has a piece at an offset, if there is one.
func (b *block) forget(off int) {
	delete(b.pointers, off-off%pieces)
}

// page is the n-th page, laid if it wasn't.
func (b *block) page(n int) []cell {
	if b.pages == nil {
		b.pages = map[int][]cell{}
	}
	if b.pages[n] == nil {
		b.pages[n] = make([]cell, min(pageSize, b.size-n*pageSize))
	}
	return b.pages[n]
}
