package memory_test

import (
	"testing"

	"alembic/api"
	"alembic/mach"
	"alembic/memory"
)

// P2.2: what was stored is loaded by the same chunk.
func TestStoredIsLoaded(t *testing.T) {
	m := memory.New()
	b := m.Alloc(24)
	extend := map[int]int{api.C8S: api.OpS8, api.C8U: api.OpU8, api.C16S: api.OpS16, api.C16U: api.OpU16}
	for _, c := range []int{api.C8S, api.C8U, api.C16S, api.C16U, api.C32} {
		for _, n := range []int32{0, 1, -1, 127, 128, -128, -129, 255, 256, 32767, 32768, -32768, -32769, 65535, 65536, 1<<31 - 1, -1 << 31} {
			checkStore(t, m, c, ptr(b, 8), i32(n), true)
			want := i32(n)
			if op := extend[c]; op != 0 {
				want, _ = mach.Eval1(op, want)
			}
			checkLoad(t, m, c, ptr(b, 8), want)
		}
	}
	for _, n := range []uint64{0, 1, 1<<63 - 1, 1 << 63, 1<<64 - 1, 0x0102030405060708, 0x7ff8000000000000, 0xfff0000000000001} {
		for _, off := range []int64{0, 8, 16} {
			for _, v := range []api.Value{mach.LongOf(int64(n)), ptr(b, int64(n)), ptr(99, int64(n))} {
				checkStore(t, m, api.C64, ptr(b, off), v, true)
				checkLoad(t, m, api.C64, ptr(b, off), v)
			}
			checkStore(t, m, api.CF64, ptr(b, off), mach.DoubleOf(n), true)
			checkLoad(t, m, api.CF64, ptr(b, off), mach.DoubleOf(n))
		}
	}
}

// P2.2: a store changes nothing outside of its bytes, neither beside it nor in another block.
func TestStoresStayWhereTheyAre(t *testing.T) {
	values := map[int]api.Value{api.C8S: i32(-1), api.C8U: i32(-1), api.C16S: i32(-1), api.C16U: i32(-1), api.C32: i32(-1), api.C64: i64(-1), api.CF64: mach.DoubleOf(1<<64 - 1)}
	for c, v := range values {
		n := int64(mach.Size(c))
		for off := int64(0); off < 32; off += n {
			m := memory.New()
			b, other := m.Alloc(32), m.Alloc(32)
			for i := range int64(32) {
				m.Store(api.C8U, ptr(b, i), i32(int32(i)))
				m.Store(api.C8U, ptr(other, i), i32(int32(i)))
			}
			checkStore(t, m, c, ptr(b, off), v, true)
			for i := range int64(32) {
				want := i32(int32(i))
				checkLoad(t, m, api.C8U, ptr(other, i), want)
				if i >= off && i < off+n {
					want = i32(255)
				}
				checkLoad(t, m, api.C8U, ptr(b, i), want)
			}
		}
	}
}

// P2.3: a block that was freed answers nothing any more, and its number doesn't come again.
func TestFreed(t *testing.T) {
	m := memory.New()
	b, kept := m.Alloc(16), m.Alloc(16)
	m.Store(api.C64, ptr(b, 0), i64(5))
	m.Store(api.C64, ptr(kept, 0), ptr(b, 0))
	if !m.Free(b) {
		t.Error("Free")
	}
	after := func() {
		t.Helper()
		checkSize(t, m, b, 0, false)
		for _, c := range allChunks() {
			checkNoLoad(t, m, c, ptr(b, 0))
			checkStore(t, m, c, ptr(b, 0), none, false)
		}
		if m.Free(b) || m.Fix(b) {
			t.Error("freed or fixed again")
		}
		checkLoad(t, m, api.C64, ptr(kept, 0), ptr(b, 0))
	}
	after()
	if n := m.Alloc(16); n != 3 {
		t.Errorf("the next one is %d", n)
	}
	after()
}

// P2.3: a fixed block never changes, but it may be freed.
func TestFixed(t *testing.T) {
	m := memory.New()
	b := m.Alloc(16)
	m.Store(api.C32, ptr(b, 0), i32(5))
	m.Store(api.C64, ptr(b, 8), ptr(b, 3))
	for range 2 {
		if !m.Fix(b) {
			t.Error("Fix")
		}
		for _, v := range []api.Value{none, i32(1), i64(1), f64(1), ptr(1, 0)} {
			for _, c := range allChunks() {
				checkStore(t, m, c, ptr(b, 0), v, false)
				checkStore(t, m, c, ptr(b, 8), v, false)
			}
		}
		checkLoad(t, m, api.C32, ptr(b, 0), i32(5))
		checkLoad(t, m, api.C32, ptr(b, 4), none)
		checkLoad(t, m, api.C64, ptr(b, 8), ptr(b, 3))
		checkSize(t, m, b, 16, true)
	}
	other := m.Alloc(8)
	checkStore(t, m, api.C32, ptr(other, 0), i32(1), true)
	if !m.Free(b) || m.Free(b) {
		t.Error("Free of a fixed one")
	}
	checkNoLoad(t, m, api.C32, ptr(b, 0))
}

// P2.1: memories know nothing of one another.
func TestMemoriesAreApart(t *testing.T) {
	m, other := memory.New(), memory.New()
	m.Alloc(8)
	checkSize(t, other, 1, 0, false)
	if b := other.Alloc(4); b != 1 {
		t.Errorf("Alloc: %d", b)
	}
	m.Store(api.C32, ptr(1, 0), i32(1))
	checkLoad(t, other, api.C32, ptr(1, 0), none)
	other.Free(1)
	checkLoad(t, m, api.C32, ptr(1, 0), i32(1))
}

// P2.1: blocks as great and as many as there may be take no more than what is used of them.
func TestGreatBlocks(t *testing.T) {
	m := memory.New()
	const n = 2000
	for b := 1; b <= n; b++ {
		if m.Alloc(api.MaxFrame) != b {
			t.Fatal(b)
		}
		checkStore(t, m, api.C64, ptr(b, api.MaxFrame-8), i64(int64(b)), true)
		checkStore(t, m, api.C64, ptr(b, 4096), ptr(b, 0), true)
	}
	for b := 1; b <= n; b++ {
		checkLoad(t, m, api.C64, ptr(b, api.MaxFrame-8), i64(int64(b)))
		checkLoad(t, m, api.C64, ptr(b, 4096), ptr(b, 0))
		checkLoad(t, m, api.C64, ptr(b, 4088), none)
		checkNoLoad(t, m, api.C8S, ptr(b, api.MaxFrame))
	}
}

// P2.1: the last bytes of a block whose size is no multiple of anything.
func TestOddEnds(t *testing.T) {
	for _, size := range []int{1, 4095, 4096, 4097, 8191, 8193, 12289} {
		m := memory.New()
		b := m.Alloc(size)
		for off := range size {
			checkStore(t, m, api.C8U, ptr(b, int64(off)), i32(int32(off%251)), true)
		}
		checkStore(t, m, api.C8U, ptr(b, int64(size)), i32(1), false)
		for off := range size {
			checkLoad(t, m, api.C8U, ptr(b, int64(off)), i32(int32(off%251)))
		}
	}
}
