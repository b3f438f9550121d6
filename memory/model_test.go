package memory_test

import (
	"math/rand/v2"
	"testing"

	"alembic/api"
	"alembic/mach"
	"alembic/memory"
)

// piece is a byte as the document has it: empty (0), a byte (1), or the i-th piece of a pointer (2).
type piece struct {
	what  int
	low   byte
	i     int
	whole api.Value
}

type row struct {
	bytes       []piece
	live, fixed bool
}

// model is a memory by the document's words, byte by byte.
type model struct{ rows []*row }

func (m *model) row(n int) *row {
	if n < 1 || n > len(m.rows) || !m.rows[n-1].live {
		return nil
	}
	return m.rows[n-1]
}

func (m *model) at(chunk int, at api.Value) (*row, []piece) {
	r, n, off := m.row(at.Block), int64(mach.Size(chunk)), int64(at.Bits)
	if at.Kind != api.Ptr || n == 0 || r == nil || off < 0 || off%n != 0 || off > int64(len(r.bytes))-n {
		return nil, nil
	}
	return r, r.bytes[off : off+n]
}

func (m *model) load(chunk int, at api.Value) (api.Value, bool) {
	r, bytes := m.at(chunk, at)
	if r == nil {
		return none, false
	}
	var bits uint64
	numbers, whole := true, chunk == api.C64
	for i, p := range bytes {
		bits |= uint64(p.low) << (8 * i)
		numbers = numbers && p.what == 1
		whole = whole && p.what == 2 && p.i == i && p.whole == bytes[0].whole
	}
	if whole {
		return bytes[0].whole, true
	}
	if !numbers {
		return none, true
	}
	low := i32(int32(bits))
	op := map[int]int{api.C8S: api.OpS8, api.C8U: api.OpU8, api.C16S: api.OpS16, api.C16U: api.OpU16}[chunk]
	if op != 0 {
		low, _ = mach.Eval1(op, low)
	}
	switch chunk {
	case api.C64:
		return i64(int64(bits)), true
	case api.CF64:
		return mach.DoubleOf(bits), true
	}
	return low, true
}

func (m *model) store(chunk int, at, v api.Value) bool {
	r, bytes := m.at(chunk, at)
	if r == nil || r.fixed || v.Kind != api.Undef && v.Kind != mach.Kind(chunk) && (v.Kind != api.Ptr || chunk != api.C64) {
		return false
	}
	for i := range bytes {
		switch v.Kind {
		case api.Undef:
			bytes[i] = piece{}
		case api.Ptr:
			bytes[i] = piece{what: 2, i: i, whole: v}
		default:
			bytes[i] = piece{what: 1, low: byte(v.Bits >> (8 * i))}
		}
	}
	return true
}

// someValue is mostly one that a chunk takes.
func someValue(r *rand.Rand, chunk int) api.Value {
	kind := mach.Kind(chunk)
	switch k := r.IntN(20); {
	case k == 0:
		kind = r.IntN(7) - 1
	case k < 4:
		kind = api.Undef
	case k < 12 && chunk == api.C64:
		kind = api.Ptr
	}
	v := api.Value{Kind: kind, Bits: r.Uint64() >> (r.IntN(8) * 8)}
	if kind == api.Ptr || r.IntN(20) == 0 {
		v.Block = r.IntN(4)
	}
	return v
}

// someAddress is mostly a multiple of a chunk's size, in one of a few blocks or near to them.
func someAddress(r *rand.Rand, chunk, blocks int) api.Value {
	off := r.IntN(20) - 2
	if n := mach.Size(chunk); n > 0 && r.IntN(10) > 0 {
		off -= off % n
	}
	return api.Value{Kind: api.Ptr, Bits: uint64(off), Block: r.IntN(blocks + 2)}
}

// P2.1: rows of calls by chance are answered as the model answers them.
func TestRowsOfCalls(t *testing.T) {
	for seed := range uint64(200) {
		r := rand.New(rand.NewPCG(seed, 2))
		m, want := memory.New(), &model{}
		for range 600 {
			step(t, r, m, want)
		}
		if t.Failed() {
			t.Fatalf("seed %d", seed)
		}
	}
}

func step(t *testing.T, r *rand.Rand, m *memory.Memory, want *model) {
	t.Helper()
	n := r.IntN(len(want.rows) + 2)
	chunk := []int{0, api.C8S, api.C8U, api.C16S, api.C16U, api.C32, api.C32, api.C64, api.C64, api.C64, api.C64, api.CF64, 8}[r.IntN(13)]
	switch k := r.IntN(200); {
	case k < 5 && len(want.rows) < 8 || len(want.rows) == 0:
		size := r.IntN(20)
		want.rows = append(want.rows, &row{bytes: make([]piece, size), live: true})
		if b := m.Alloc(size); b != len(want.rows) {
			t.Errorf("Alloc: %d, not %d", b, len(want.rows))
		}
	case k == 5:
		row := want.row(n)
		if m.Free(n) != (row != nil) {
			t.Errorf("Free(%d)", n)
		}
		if row != nil {
			row.live = false
		}
	case k == 6:
		row := want.row(n)
		if m.Fix(n) != (row != nil) {
			t.Errorf("Fix(%d)", n)
		}
		if row != nil {
			row.fixed = true
		}
	case k < 110:
		at, v := someAddress(r, chunk, len(want.rows)), someValue(r, chunk)
		checkStore(t, m, chunk, at, v, want.store(chunk, at, v))
	default:
		at := someAddress(r, chunk, len(want.rows))
		if v, ok := want.load(chunk, at); ok {
			checkLoad(t, m, chunk, at, v)
		} else {
			checkNoLoad(t, m, chunk, at)
		}
	}
	if row := want.row(n); row != nil {
		checkSize(t, m, n, len(row.bytes), true)
	} else {
		checkSize(t, m, n, 0, false)
	}
}
