package memory

import (
	"alembic/api"
	"alembic/mach"
)

// Load is what stands at an address.
func (m *Memory) Load(chunk int, at api.Value) (api.Value, bool) {
	b, off := m.reach(chunk, at)
	if b == nil {
		return api.Value{}, false
	}
	if p, ok := b.pointers[off]; ok && chunk == api.C64 {
		return p, true
	}
	bits, ok := b.number(off, mach.Size(chunk))
	if !ok {
		return api.Value{}, true
	}
	return valueOf(chunk, bits), true
}

// Store puts a value at an address.
func (m *Memory) Store(chunk int, at, v api.Value) bool {
	b, off := m.reach(chunk, at)
	if b == nil || b.fixed || !fits(chunk, v.Kind) {
		return false
	}
	switch v.Kind {
	case api.Undef:
		b.empty(off, mach.Size(chunk))
	case api.Ptr:
		b.point(off, v)
	default:
		b.put(off, mach.Size(chunk), v.Bits)
	}
	return true
}

// reach is the block and the offset of an access, a nil block where it has no meaning.
func (m *Memory) reach(chunk int, at api.Value) (*block, int) {
	b, n, off := m.addressed(at), mach.Size(chunk), int(at.Bits)
	if b == nil || n == 0 || off < 0 || off%n != 0 || off > b.size-n {
		return nil, 0
	}
	return b, off
}

// addressed is the live block of a Ptr, else nil.
func (m *Memory) addressed(at api.Value) *block {
	if at.Kind != api.Ptr {
		return nil
	}
	return m.live(at.Block)
}

// fits tells whether a value of a kind may be stored by a chunk.
func fits(chunk, kind int) bool {
	return kind == api.Undef || kind == mach.Kind(chunk) || kind == api.Ptr && chunk == api.C64
}

// valueOf is the value that a chunk makes of the number of its bytes.
func valueOf(chunk int, bits uint64) api.Value {
	switch chunk {
	case api.C8S:
		return mach.IntOf(int32(int8(bits)))
	case api.C16S:
		return mach.IntOf(int32(int16(bits)))
	case api.C64:
		return mach.LongOf(int64(bits))
	case api.CF64:
		return mach.DoubleOf(bits)
	}
	return mach.IntOf(int32(bits)) // of C8U and C16U there are no more bits than these
}
