package memory_test

import (
	"math"
	"testing"

	"alembic/api"
	"alembic/mach"
	"alembic/memory"
)

func checkEval(t *testing.T, m *memory.Memory, op int, x, y, want api.Value) {
	t.Helper()
	if got, ok := m.Eval2(op, x, y); got != want || ok != (want != none) {
		t.Errorf("%d of %v, %v: %v, %v, not %v", op, x, y, got, ok, want)
	}
}

// mixed are values of all kinds, those that aren't right among them, and pointers in, at the end of and beyond the blocks 1 to 3.
func mixed() []api.Value {
	list := []api.Value{{}, {Bits: 1, Block: 1}, {Kind: 5, Block: 1}, {Kind: -1}, {Kind: api.Int, Bits: 1 << 32}, {Kind: api.Long, Block: 1}}
	for _, n := range []int64{0, 1, 5, -1, math.MaxInt64, math.MinInt64} {
		list = append(list, i32(int32(n)), i64(n), mach.DoubleOf(uint64(n)))
	}
	for _, b := range []int{1, 2, 3, 4, 0, -1} {
		for _, n := range []int64{0, 1, 7, 8, 9, -1, math.MaxInt64, math.MinInt64} {
			list = append(list, api.Value{Kind: api.Ptr, Bits: uint64(n), Block: b})
		}
	}
	return list
}

// wantEval says by the document's words what an operation answers, where blocks 1 and 2 of 8 bytes, 3 of none are all that live.
func wantEval(op int, x, y api.Value) api.Value {
	size := map[int]uint64{1: 8, 2: 8, 3: 0}
	in := func(p api.Value) bool { return p.Bits < size[p.Block] }
	near := func(p api.Value) bool {
		n, live := size[p.Block]
		return live && p.Bits <= n
	}
	want, _ := mach.Eval2(op, x, y)
	if x.Kind != api.Ptr || y.Kind != api.Ptr {
		return want
	}
	switch op {
	case api.OpEq + api.OfLong, api.OpNe + api.OfLong:
		if x.Block != y.Block && in(x) && in(y) {
			want = i32(int32(op - api.OpEq - api.OfLong))
		}
	case api.OpLt + api.OfLong, api.OpLe + api.OfLong, api.OpGt + api.OfLong, api.OpGe + api.OfLong,
		api.OpLtU + api.OfLong, api.OpLeU + api.OfLong, api.OpGtU + api.OfLong, api.OpGeU + api.OfLong:
		if !near(x) || !near(y) {
			want = none
		}
	}
	return want
}

// P2.1: Eval2 of all operations and values, as told.
func TestEvalOfAll(t *testing.T) {
	m := memory.New()
	m.Alloc(8)
	m.Alloc(8)
	m.Alloc(0)
	m.Alloc(8)
	m.Free(4)
	m.Fix(2)
	ops := []int{math.MinInt, math.MaxInt}
	for op := -2; op < 310; op++ {
		ops = append(ops, op)
	}
	list := mixed()
	for _, op := range ops {
		for _, x := range list {
			for _, y := range list {
				checkEval(t, m, op, x, y, wantEval(op, x, y))
			}
		}
	}
}

// P2.1: the pointers' rows, one by one.
func TestEvalOfPointers(t *testing.T) {
	const l = api.OfLong
	m := memory.New()
	a, b, freed := m.Alloc(8), m.Alloc(4), m.Alloc(8)
	m.Free(freed)
	for _, x := range []struct {
		op         int
		x, y, want api.Value
	}{
		{api.OpEq + l, ptr(a, 0), ptr(b, 0), i32(0)},
		{api.OpNe + l, ptr(a, 7), ptr(b, 3), i32(1)},
		{api.OpEq + l, ptr(a, 8), ptr(b, 0), none},
		{api.OpNe + l, ptr(a, 0), ptr(b, 4), none},
		{api.OpEq + l, ptr(a, -1), ptr(b, 0), none},
		{api.OpEq + l, ptr(a, 0), ptr(freed, 0), none},
		{api.OpEq + l, ptr(a, 0), ptr(77, 0), none},
		{api.OpEq + l, ptr(a, 99), ptr(a, 99), i32(1)},
		{api.OpEq + l, ptr(freed, 0), ptr(freed, 4), i32(0)},
		{api.OpEq + l, ptr(a, 0), i64(0), i32(0)},
		{api.OpNe + l, i64(0), ptr(freed, 0), i32(1)},
		{api.OpEq, ptr(a, 0), ptr(b, 0), none},
		{api.OpNe, ptr(a, 0), ptr(b, 0), none},
		{api.OpSub + l, ptr(a, 0), ptr(b, 0), none},
		{api.OpSub + l, ptr(a, 99), ptr(a, -1), i64(100)},
		{api.OpSub + l, ptr(freed, 1), ptr(freed, 0), i64(1)},
		{api.OpAdd + l, ptr(freed, 1), i64(20), ptr(freed, 21)},
		{api.OpLt + l, ptr(a, 0), ptr(a, 8), i32(1)},
		{api.OpGeU + l, ptr(a, 8), ptr(a, 8), i32(1)},
		{api.OpLt + l, ptr(a, 0), ptr(a, 9), none},
		{api.OpLtU + l, ptr(a, -1), ptr(a, 0), none},
		{api.OpGt + l, ptr(a, 0), ptr(a, -1), none},
		{api.OpLe + l, ptr(freed, 0), ptr(freed, 0), none},
		{api.OpLt + l, ptr(a, 0), ptr(b, 0), none},
		{api.OpLt, ptr(a, 0), ptr(a, 4), none},
	} {
		checkEval(t, m, x.op, x.x, x.y, x.want)
	}
	m.Free(a)
	checkEval(t, m, api.OpEq+l, ptr(a, 0), ptr(b, 0), none)
	checkEval(t, m, api.OpLt+l, ptr(a, 0), ptr(a, 4), none)
}
