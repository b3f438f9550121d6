package mach_test

import (
	"math"
	"testing"

	"alembic/api"
	"alembic/mach"
)

func TestMakers(t *testing.T) {
	for _, x := range []struct{ got, want api.Value }{
		{mach.IntOf(0), api.Value{Kind: api.Int}},
		{mach.IntOf(7), api.Value{Kind: api.Int, Bits: 7}},
		{mach.IntOf(-1), api.Value{Kind: api.Int, Bits: 0xffffffff}},
		{mach.IntOf(math.MinInt32), api.Value{Kind: api.Int, Bits: 0x80000000}},
		{mach.LongOf(-1), api.Value{Kind: api.Long, Bits: math.MaxUint64}},
		{mach.LongOf(math.MinInt64), api.Value{Kind: api.Long, Bits: 1 << 63}},
		{mach.DoubleOf(0x3ff0000000000000), api.Value{Kind: api.Double, Bits: 0x3ff0000000000000}},
		{mach.DoubleOf(0x7ff0000000000001), api.Value{Kind: api.Double, Bits: 0x7ff0000000000001}},
		{mach.PtrOf(3, 16), api.Value{Kind: api.Ptr, Bits: 16, Block: 3}},
		{mach.PtrOf(3, -1), api.Value{Kind: api.Ptr, Bits: math.MaxUint64, Block: 3}},
		{mach.PtrOf(-3, 1), api.Value{Kind: api.Ptr, Bits: 1, Block: -3}},
		{mach.PtrOf(0, 0), api.Value{}},
		{mach.PtrOf(0, 16), api.Value{}},
	} {
		if x.got != x.want {
			t.Errorf("%v, not %v", x.got, x.want)
		}
		if !mach.Right(x.got) {
			t.Errorf("%v isn't right", x.got)
		}
	}
}

func TestRight(t *testing.T) {
	for _, x := range []struct {
		v     api.Value
		right bool
	}{
		{api.Value{}, true},
		{api.Value{Bits: 1}, false},
		{api.Value{Block: 1}, false},
		{api.Value{Kind: api.Int, Bits: 1<<32 - 1}, true},
		{api.Value{Kind: api.Int, Bits: 1 << 32}, false},
		{api.Value{Kind: api.Int, Bits: math.MaxUint64}, false},
		{api.Value{Kind: api.Int, Block: 1}, false},
		{api.Value{Kind: api.Long, Bits: math.MaxUint64}, true},
		{api.Value{Kind: api.Long, Block: 1}, false},
		{api.Value{Kind: api.Double, Bits: math.MaxUint64}, true},
		{api.Value{Kind: api.Double, Block: -1}, false},
		{api.Value{Kind: api.Ptr, Block: 1}, true},
		{api.Value{Kind: api.Ptr, Bits: math.MaxUint64, Block: -1}, true},
		{api.Value{Kind: api.Ptr}, false},
		{api.Value{Kind: api.Ptr, Bits: 8}, false},
		{api.Value{Kind: 5}, false},
		{api.Value{Kind: 5, Block: 1}, false},
		{api.Value{Kind: -1}, false},
		{api.Value{Kind: math.MinInt}, false},
	} {
		if mach.Right(x.v) != x.right {
			t.Errorf("Right(%v) is %v", x.v, !x.right)
		}
	}
}

func TestSame(t *testing.T) {
	list := []api.Value{
		{}, {Bits: 1}, {Block: 1}, {Kind: 7},
		{Kind: api.Int}, {Kind: api.Int, Bits: 1}, {Kind: api.Int, Bits: 1 << 32}, {Kind: api.Int, Block: 1},
		{Kind: api.Long}, {Kind: api.Double}, {Kind: api.Double, Bits: 1 << 63}, {Kind: api.Double, Bits: 0x7ff8000000000000},
		{Kind: api.Ptr}, {Kind: api.Ptr, Block: 1}, {Kind: api.Ptr, Block: 2}, {Kind: api.Ptr, Bits: 1, Block: 1},
	}
	for i, x := range list {
		for k, y := range list {
			if mach.Same(x, y) != (i == k) {
				t.Errorf("Same(%v, %v) is %v", x, y, i != k)
			}
		}
	}
}

func TestTruth(t *testing.T) {
	for _, x := range []struct {
		v         api.Value
		truth, ok bool
	}{
		{mach.IntOf(0), false, true},
		{mach.IntOf(1), true, true},
		{mach.IntOf(math.MinInt32), true, true},
		{api.Value{Kind: api.Int, Bits: 1 << 32}, false, true},
		{api.Value{Kind: api.Int, Bits: 1<<32 + 1, Block: 3}, true, true},
		{mach.LongOf(0), false, true},
		{mach.LongOf(1 << 32), true, true},
		{mach.LongOf(math.MinInt64), true, true},
		{api.Value{Kind: api.Long, Block: 3}, false, true},
		{mach.DoubleOf(0), false, true},
		{mach.DoubleOf(1 << 63), false, true},
		{mach.DoubleOf(1), true, true},
		{mach.DoubleOf(1<<63 + 1), true, true},
		{mach.DoubleOf(0x7ff8000000000000), true, true},
		{mach.DoubleOf(0xfff0000000000001), true, true},
		{mach.DoubleOf(0x7ff0000000000000), true, true},
		{mach.PtrOf(1, 0), true, true},
		{mach.PtrOf(1, 8), true, true},
		{api.Value{Kind: api.Ptr}, true, true},
		{api.Value{}, false, false},
		{api.Value{Bits: 1, Block: 1}, false, false},
		{api.Value{Kind: 5, Bits: 1}, false, false},
		{api.Value{Kind: -1, Bits: 1}, false, false},
	} {
		if truth, ok := mach.Truth(x.v); truth != x.truth || ok != x.ok {
			t.Errorf("Truth(%v): %v, %v", x.v, truth, ok)
		}
		testTruthOps(t, x.v, x.truth, x.ok)
	}
}

func testTruthOps(t *testing.T, v api.Value, truth, ok bool) {
	t.Helper()
	one, other := api.Value{}, api.Value{}
	if ok {
		one, other = mach.IntOf(0), mach.IntOf(1)
	}
	if truth {
		one, other = other, one
	}
	if r, k := mach.Eval1(api.OpTruth, v); r != one || k != ok {
		t.Errorf("OpTruth of %v: %v, %v", v, r, k)
	}
	if r, k := mach.Eval1(api.OpFalse, v); r != other || k != ok {
		t.Errorf("OpFalse of %v: %v, %v", v, r, k)
	}
}

func TestChunks(t *testing.T) {
	sizes := map[int]int{api.C8S: 1, api.C8U: 1, api.C16S: 2, api.C16U: 2, api.C32: 4, api.C64: 8, api.CF64: 8}
	kinds := map[int]int{api.C8S: api.Int, api.C8U: api.Int, api.C16S: api.Int, api.C16U: api.Int, api.C32: api.Int, api.C64: api.Long, api.CF64: api.Double}
	for _, c := range []int{math.MinInt, -8, -1, 0, 1, 2, 3, 4, 5, 6, 7, 8, 9, 64, math.MaxInt} {
		if mach.Size(c) != sizes[c] {
			t.Errorf("Size(%d) is %d", c, mach.Size(c))
		}
		if mach.Kind(c) != kinds[c] {
			t.Errorf("Kind(%d) is %d", c, mach.Kind(c))
		}
	}
}

func TestShape(t *testing.T) {
	want := map[int][3]int{}
	add := func(x, y, r int, ops ...int) {
		for _, op := range ops {
			want[op] = [3]int{x, y, r}
		}
	}
	const i, l, d = api.Int, api.Long, api.Double
	for off, k := range map[int]int{0: i, 30: l} {
		add(k, 0, k, 1+off, 2+off)
		add(k, k, k, 3+off, 4+off, 5+off, 6+off, 7+off, 8+off, 9+off, 10+off, 11+off, 12+off)
		add(k, i, k, 13+off, 14+off, 15+off)
		add(k, k, i, 16+off, 17+off, 18+off, 19+off, 20+off, 21+off, 22+off, 23+off, 24+off, 25+off)
	}
	add(d, 0, d, api.OpNegD)
	add(d, d, d, api.OpAddD, api.OpSubD, api.OpMulD, api.OpDivD)
	add(d, d, i, api.OpEqD, api.OpNeD, api.OpLtD, api.OpLeD, api.OpGtD, api.OpGeD)
	add(i, 0, i, api.OpS8, api.OpU8, api.OpS16, api.OpU16, api.OpTruth, api.OpFalse)
	add(i, 0, l, api.OpLongS, api.OpLongU)
	add(l, 0, i, api.OpInt)
	add(i, 0, d, api.OpDblS, api.OpDblU)
	add(l, 0, d, api.OpDblL, api.OpDblUL)
	add(d, 0, i, api.OpIntD, api.OpUintD)
	add(d, 0, l, api.OpLongD, api.OpUlongD)
	for _, op := range allOps() {
		x, y, r := mach.Shape(op)
		if got := [3]int{x, y, r}; got != want[op] {
			t.Errorf("Shape(%d): %v, not %v", op, got, want[op])
		}
	}
	if len(want) != 78 {
		t.Errorf("%d operations", len(want))
	}
}
