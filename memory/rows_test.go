package memory_test

import (
	"math"
	"testing"

	"alembic/api"
	"alembic/mach"
	"alembic/memory"
)

// none stands in the tables for the undefined value.
var none = api.Value{}

func i32(n int32) api.Value            { return mach.IntOf(n) }
func i64(n int64) api.Value            { return mach.LongOf(n) }
func f64(n float64) api.Value          { return mach.DoubleOf(math.Float64bits(n)) }
func ptr(block int, n int64) api.Value { return mach.PtrOf(block, n) }

// allChunks are the chunks, and numbers that name none.
func allChunks() []int {
	return []int{api.C8S, api.C8U, api.C16S, api.C16U, api.C32, api.C64, api.CF64, 0, 8, -1, 13, math.MinInt, math.MaxInt}
}

func checkLoad(t *testing.T, m *memory.Memory, chunk int, at, want api.Value) {
	t.Helper()
	if got, ok := m.Load(chunk, at); got != want || !ok {
		t.Errorf("Load(%d, %v): %v, %v, not %v", chunk, at, got, ok, want)
	}
}

func checkNoLoad(t *testing.T, m *memory.Memory, chunk int, at api.Value) {
	t.Helper()
	if got, ok := m.Load(chunk, at); got != none || ok {
		t.Errorf("Load(%d, %v): %v, %v, and has no meaning", chunk, at, got, ok)
	}
}

func checkStore(t *testing.T, m *memory.Memory, chunk int, at, v api.Value, want bool) {
	t.Helper()
	if got := m.Store(chunk, at, v); got != want {
		t.Errorf("Store(%d, %v, %v): %v", chunk, at, v, got)
	}
}

func checkSize(t *testing.T, m *memory.Memory, block, size int, live bool) {
	t.Helper()
	if n, ok := m.Size(block); n != size || ok != live {
		t.Errorf("Size(%d): %d, %v, not %d, %v", block, n, ok, size, live)
	}
}

// P2.1: the document's example, row by row.
func TestExample(t *testing.T) {
	m := memory.New()
	if b := m.Alloc(8); b != 1 {
		t.Fatalf("Alloc(8): %d", b)
	}
	checkStore(t, m, api.C32, ptr(1, 4), i32(-2), true)
	checkLoad(t, m, api.C8S, ptr(1, 4), i32(-2))
	checkLoad(t, m, api.C8U, ptr(1, 5), i32(255))
	checkLoad(t, m, api.C64, ptr(1, 0), none)
	checkNoLoad(t, m, api.C32, ptr(1, 2))
	checkNoLoad(t, m, api.C32, ptr(1, 8))
	checkStore(t, m, api.C64, ptr(1, 0), ptr(1, 0), true)
	checkLoad(t, m, api.C64, ptr(1, 0), ptr(1, 0))
	checkLoad(t, m, api.C32, ptr(1, 0), none)
}

// P2.1: sizes that a block may have, and numbers, which never come again.
func TestAlloc(t *testing.T) {
	m := memory.New()
	next := 1
	for _, size := range []int{0, 1, -1, 7, api.MaxFrame, api.MaxFrame + 1, math.MaxInt, math.MinInt, 8} {
		fits := size >= 0 && size <= api.MaxFrame
		want := 0
		if fits {
			want = next
			next++
		}
		if b := m.Alloc(size); b != want {
			t.Errorf("Alloc(%d): %d, not %d", size, b, want)
		}
		if fits {
			checkSize(t, m, want, size, true)
		}
	}
	checkSize(t, m, next, 0, false)
	for b := 1; b < next; b++ {
		if !m.Free(b) {
			t.Errorf("Free(%d)", b)
		}
	}
	if b := m.Alloc(8); b != next {
		t.Errorf("behind freed ones: %d, not %d", b, next)
	}
}

// P2.1: blocks that there aren't.
func TestNoBlock(t *testing.T) {
	m := memory.New()
	m.Alloc(8)
	for _, b := range []int{0, 2, -1, math.MaxInt, math.MinInt} {
		checkSize(t, m, b, 0, false)
		if m.Free(b) || m.Fix(b) {
			t.Errorf("block %d is freed or fixed", b)
		}
		at := api.Value{Kind: api.Ptr, Block: b}
		for _, c := range allChunks() {
			checkNoLoad(t, m, c, at)
			checkStore(t, m, c, at, none, false)
		}
	}
	checkSize(t, m, 1, 8, true)
}

// P2.1: a Memory that New didn't make answers too.
func TestMemoriesWithoutNew(t *testing.T) {
	var zero memory.Memory
	if b := zero.Alloc(8); b != 1 {
		t.Errorf("Alloc: %d", b)
	}
	checkStore(t, &zero, api.C32, ptr(1, 0), i32(5), true)
	checkLoad(t, &zero, api.C32, ptr(1, 0), i32(5))
	var no *memory.Memory
	if no.Alloc(8) != 0 || no.Free(1) || no.Fix(1) {
		t.Error("a nil memory has a block")
	}
	checkSize(t, no, 1, 0, false)
	checkNoLoad(t, no, api.C32, ptr(1, 0))
	checkStore(t, no, api.C32, ptr(1, 0), i32(5), false)
	if v, ok := no.Eval2(api.OpAdd, i32(2), i32(3)); v != i32(5) || !ok {
		t.Error(v, ok)
	}
}

// P2.1: where an access has a meaning: the chunk is one, the offset a multiple of its size, all bytes in the block.
func TestWhereAccessesAre(t *testing.T) {
	sizes := map[int]int64{api.C8S: 1, api.C8U: 1, api.C16S: 2, api.C16U: 2, api.C32: 4, api.C64: 8, api.CF64: 8}
	offsets := []int64{math.MinInt64, -1 << 32, -1, 1 << 12, 1 << 32, math.MaxInt64 - 7, math.MaxInt64}
	for off := int64(-17); off < 40; off++ {
		offsets = append(offsets, off)
	}
	for _, size := range []int64{0, 1, 2, 3, 4, 7, 8, 9, 15, 16, 17, 31} {
		m := memory.New()
		b := m.Alloc(int(size))
		for _, c := range allChunks() {
			n := sizes[c]
			for _, off := range offsets {
				at := ptr(b, off)
				if n > 0 && off >= 0 && off%n == 0 && off < size && off+n <= size {
					checkLoad(t, m, c, at, none)
					checkStore(t, m, c, at, none, true)
				} else {
					checkNoLoad(t, m, c, at)
					checkStore(t, m, c, at, none, false)
				}
			}
		}
	}
}

// P2.1: what is no address is neither loaded from nor stored to.
func TestNoAddress(t *testing.T) {
	m := memory.New()
	b := m.Alloc(8)
	for _, kind := range []int{api.Undef, api.Int, api.Long, api.Double, 5, -1, math.MaxInt} {
		at := api.Value{Kind: kind, Block: b}
		checkNoLoad(t, m, api.C32, at)
		checkStore(t, m, api.C32, at, i32(1), false)
	}
	checkLoad(t, m, api.C32, ptr(b, 0), none)
}

// P2.1: which kinds a chunk takes; where it doesn't, nothing changes.
func TestKindsOfStores(t *testing.T) {
	kinds := map[int]int{api.C8S: api.Int, api.C8U: api.Int, api.C16S: api.Int, api.C16U: api.Int, api.C32: api.Int, api.C64: api.Long, api.CF64: api.Double}
	for _, c := range allChunks() {
		for _, kind := range []int{api.Undef, api.Int, api.Long, api.Double, api.Ptr, 5, -1, math.MinInt} {
			m := memory.New()
			b := m.Alloc(8)
			m.Store(api.C64, ptr(b, 0), i64(0x0102030405060708))
			is := kinds[c] != 0 && (kind == api.Undef || kind == kinds[c] || kind == api.Ptr && c == api.C64)
			checkStore(t, m, c, ptr(b, 0), api.Value{Kind: kind, Block: 1}, is)
			if !is {
				checkLoad(t, m, api.C64, ptr(b, 0), i64(0x0102030405060708))
			}
		}
	}
}

// P2.1: values that aren't right are stored by the lowest bytes of their Bits, a Ptr as it is.
func TestStoresOfWhatIsNotRight(t *testing.T) {
	m := memory.New()
	b := m.Alloc(16)
	checkStore(t, m, api.C32, ptr(b, 0), api.Value{Kind: api.Int, Bits: 7<<32 + 5, Block: 3}, true)
	checkLoad(t, m, api.C32, ptr(b, 0), i32(5))
	checkLoad(t, m, api.C32, ptr(b, 4), none)
	checkStore(t, m, api.C64, ptr(b, 8), api.Value{Kind: api.Long, Bits: 9, Block: 3}, true)
	checkLoad(t, m, api.C64, ptr(b, 8), i64(9))
	checkStore(t, m, api.CF64, ptr(b, 8), api.Value{Kind: api.Double, Bits: 9, Block: 3}, true)
	checkLoad(t, m, api.CF64, ptr(b, 8), mach.DoubleOf(9))
	checkStore(t, m, api.C64, ptr(b, 8), api.Value{Bits: 9, Block: 3}, true)
	checkLoad(t, m, api.C64, ptr(b, 8), none)
	for _, p := range []api.Value{{Kind: api.Ptr}, {Kind: api.Ptr, Bits: 5}, {Kind: api.Ptr, Bits: math.MaxUint64, Block: -2}} {
		checkStore(t, m, api.C64, ptr(b, 8), p, true)
		checkLoad(t, m, api.C64, ptr(b, 8), p)
	}
}

// P2.1: what a chunk makes of bytes.
func TestLoadsExtend(t *testing.T) {
	m := memory.New()
	b := m.Alloc(16)
	m.Store(api.C64, ptr(b, 8), i64(-0x7f7e7d7c7b7a7980)) // the bytes 80 86 85 84 83 82 81 80
	for _, x := range []struct {
		chunk int
		off   int64
		want  api.Value
	}{
		{api.C8S, 8, i32(-128)}, {api.C8U, 8, i32(128)},
		{api.C8S, 9, i32(-122)}, {api.C8U, 9, i32(0x86)},
		{api.C8S, 15, i32(-128)}, {api.C8U, 15, i32(128)},
		{api.C16S, 8, i32(-0x7980)}, {api.C16U, 8, i32(0x8680)},
		{api.C16S, 14, i32(-0x7f7f)}, {api.C16U, 14, i32(0x8081)},
		{api.C32, 8, i32(-0x7b7a7980)}, {api.C32, 12, i32(-0x7f7e7d7d)},
		{api.C64, 8, i64(-0x7f7e7d7c7b7a7980)},
		{api.CF64, 8, mach.DoubleOf(0x8081828384858680)},
		{api.C64, 0, none}, {api.CF64, 0, none}, {api.C8U, 7, none},
	} {
		checkLoad(t, m, x.chunk, ptr(b, x.off), x.want)
	}
	m.Store(api.C8U, ptr(b, 8), i32(0x7f))
	checkLoad(t, m, api.C8S, ptr(b, 8), i32(127))
	checkLoad(t, m, api.C64, ptr(b, 8), i64(-0x7f7e7d7c7b7a7981))
}

// P2.1: of empty bytes nothing but all of them filled is a number.
func TestEmptyBytes(t *testing.T) {
	m := memory.New()
	b := m.Alloc(8)
	for i := range int64(8) {
		checkLoad(t, m, api.C64, ptr(b, 0), none)
		checkLoad(t, m, api.C8U, ptr(b, i), none)
		checkStore(t, m, api.C8U, ptr(b, i), i32(int32(i)+1), true)
	}
	checkLoad(t, m, api.C64, ptr(b, 0), i64(0x0807060504030201))
	checkStore(t, m, api.C16S, ptr(b, 2), none, true)
	checkLoad(t, m, api.C64, ptr(b, 0), none)
	checkLoad(t, m, api.C32, ptr(b, 0), none)
	checkLoad(t, m, api.C16U, ptr(b, 0), i32(0x0201))
	checkLoad(t, m, api.C16U, ptr(b, 2), none)
	checkLoad(t, m, api.C32, ptr(b, 4), i32(0x08070605))
}

// P2.1: pieces of a pointer are a value together, by C64 alone.
func TestPieces(t *testing.T) {
	m := memory.New()
	b := m.Alloc(16)
	at := ptr(b, 8)
	fill := func(v api.Value) {
		t.Helper()
		checkStore(t, m, api.C64, at, v, true)
		checkLoad(t, m, api.C64, at, v)
	}
	fill(ptr(7, -3))
	for _, c := range []int{api.C8S, api.C8U, api.C16S, api.C16U, api.C32, api.CF64} {
		for off := int64(8); off < 16; off += int64(mach.Size(c)) {
			checkLoad(t, m, c, ptr(b, off), none)
		}
	}
	for i := range int64(8) {
		for _, v := range []api.Value{i32(1), none} {
			fill(ptr(7, i))
			checkStore(t, m, api.C8S, ptr(b, 8+i), v, true)
			checkLoad(t, m, api.C64, at, none)
			checkLoad(t, m, api.C8S, ptr(b, 8+i), v)
			checkLoad(t, m, api.C8S, ptr(b, 8+(i+1)%8), none)
		}
	}
	fill(i64(5))
	fill(ptr(7, 1))
	checkLoad(t, m, api.CF64, at, none)
	checkLoad(t, m, api.C32, ptr(b, 12), none)
	checkStore(t, m, api.C32, at, i32(1), true)
	checkLoad(t, m, api.C32, ptr(b, 12), none)
	fill(ptr(8, 1))
	checkStore(t, m, api.CF64, at, f64(1.5), true)
	checkLoad(t, m, api.CF64, at, f64(1.5))
	checkLoad(t, m, api.C64, at, i64(0x3ff8000000000000))
	fill(ptr(7, 1))
	checkStore(t, m, api.C64, at, none, true)
	checkLoad(t, m, api.C64, at, none)
	checkLoad(t, m, api.C64, ptr(b, 0), none)
}
