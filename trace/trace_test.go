package trace_test

import (
	"math"
	"slices"
	"testing"

	"alembic/api"
	"alembic/mach"
	"alembic/trace"
)

// none stands in the tables for the undefined value.
var none = api.Value{}

func i32(n int32) api.Value   { return mach.IntOf(n) }
func i64(n int64) api.Value   { return mach.LongOf(n) }
func f64(n float64) api.Value { return mach.DoubleOf(math.Float64bits(n)) }

func isNone(e api.Event) bool {
	return e.Name == "" && len(e.Args) == 0 && e.Result == none
}

// P3.1: the script's numbers, in the kinds there are; 0 where it has none; nothing of any other kind.
func TestAnswer(t *testing.T) {
	script := []int64{4294967297, -1, 1<<53 + 1, 1<<53 + 3, math.MaxInt64, math.MinInt64, 1 << 31}
	for _, x := range []struct {
		kind, n int
		want    api.Value
	}{
		{api.Int, 0, i32(1)},
		{api.Int, 1, i32(-1)},
		{api.Int, 4, i32(-1)},
		{api.Int, 5, i32(0)},
		{api.Int, 6, i32(math.MinInt32)},
		{api.Long, 0, i64(4294967297)},
		{api.Long, 5, i64(math.MinInt64)},
		{api.Double, 0, f64(4294967297)},
		{api.Double, 1, f64(-1)},
		{api.Double, 2, f64(1 << 53)},
		{api.Double, 3, f64(1<<53 + 4)},
		{api.Double, 4, f64(1 << 63)},
		{api.Double, 5, f64(-1 << 63)},
		{api.Int, 7, i32(0)},
		{api.Long, 7, i64(0)},
		{api.Double, 7, f64(0)},
		{api.Int, -1, i32(0)},
		{api.Long, math.MinInt, i64(0)},
		{api.Double, math.MaxInt, f64(0)},
		{api.Undef, 0, none},
		{api.Ptr, 0, none},
		{5, 0, none},
		{-1, 0, none},
		{math.MaxInt, 9, none},
	} {
		if got := trace.Answer(x.kind, script, x.n); got != x.want {
			t.Errorf("Answer(%d, .., %d): %v, not %v", x.kind, x.n, got, x.want)
		}
	}
	if v := trace.Answer(api.Double, nil, 3); v != f64(0) {
		t.Errorf("without a script: %v", v)
	}
}

// P3.1: the event of a call is its name, its arguments and the script's answer.
func TestCall(t *testing.T) {
	sig := api.Sig{Params: []int{api.Int, api.Long, api.Double}, Result: api.Long}
	args := []api.Value{i32(-5), i64(6), f64(7.5)}
	for n, want := range []api.Value{i64(40), i64(50), i64(0)} {
		e, ok := trace.Call("f", sig, args, []int64{40, 50}, n)
		if !ok || e.Name != "f" || !slices.Equal(e.Args, args) || e.Result != want {
			t.Errorf("call %d: %v, %v", n, e, ok)
		}
	}
	e, ok := trace.Call("", api.Sig{}, nil, []int64{3}, 0)
	if !ok || !isNone(e) {
		t.Errorf("of nothing: %v, %v", e, ok)
	}
	odd := api.Value{Kind: api.Int, Bits: 1 << 32, Block: 2}
	e, ok = trace.Call("g", api.Sig{Params: []int{api.Int}, Result: 9}, []api.Value{odd}, nil, 0)
	if !ok || len(e.Args) != 1 || e.Args[0] != odd || e.Result != none {
		t.Errorf("of what isn't right: %v, %v", e, ok)
	}
}

// P3.1: calls that have no meaning: of too few or many arguments, of other kinds, of addresses and what is undefined.
func TestCallsWithoutMeaning(t *testing.T) {
	for _, x := range []struct {
		params []int
		args   []api.Value
	}{
		{[]int{api.Int}, nil},
		{nil, []api.Value{i32(1)}},
		{[]int{api.Int, api.Int}, []api.Value{i32(1)}},
		{[]int{api.Int}, []api.Value{i32(1), i32(2)}},
		{[]int{api.Int}, []api.Value{i64(1)}},
		{[]int{api.Long}, []api.Value{i32(1)}},
		{[]int{api.Double}, []api.Value{i64(1)}},
		{[]int{api.Long}, []api.Value{f64(1)}},
		{[]int{api.Long}, []api.Value{mach.PtrOf(1, 0)}},
		{[]int{api.Ptr}, []api.Value{mach.PtrOf(1, 0)}},
		{[]int{api.Int}, []api.Value{none}},
		{[]int{api.Undef}, []api.Value{none}},
		{[]int{7}, []api.Value{{Kind: 7}}},
		{[]int{-1}, []api.Value{{Kind: -1}}},
		{[]int{api.Int, api.Long}, []api.Value{i32(1), none}},
		{[]int{api.Int, api.Long}, []api.Value{none, i64(1)}},
	} {
		e, ok := trace.Call("f", api.Sig{Params: x.params, Result: api.Int}, x.args, []int64{1}, 0)
		if ok || !isNone(e) {
			t.Errorf("of %v, %v: %v, %v", x.params, x.args, e, ok)
		}
	}
}

// P3.1: an event shares nothing with what was handed in.
func TestCallsKeepNothing(t *testing.T) {
	args := make([]api.Value, 1, 4)
	args[0] = i32(1)
	e, _ := trace.Call("f", api.Sig{Params: []int{api.Int}}, args, nil, 0)
	args[0] = i32(2)
	if e.Args[0] != i32(1) {
		t.Error("an event changes with its arguments")
	}
	e.Args[0] = i32(3)
	_ = append(e.Args, i32(4))
	if args[0] != i32(2) || args[:2][1] != none {
		t.Error("arguments change with their event")
	}
}

// unlike are events, each another one.
func unlike() []api.Event {
	return []api.Event{
		{},
		{Name: "f"},
		{Name: "g"},
		{Name: "f", Args: []api.Value{i32(1)}},
		{Name: "f", Args: []api.Value{i64(1)}},
		{Name: "f", Args: []api.Value{i32(2)}},
		{Name: "f", Args: []api.Value{none}},
		{Name: "f", Args: []api.Value{{Kind: api.Int, Bits: 1, Block: 1}}},
		{Name: "f", Args: []api.Value{{Kind: api.Int, Bits: 1<<32 + 1}}},
		{Name: "f", Args: []api.Value{i32(1), i32(1)}},
		{Name: "f", Args: []api.Value{i32(1), i32(2)}},
		{Name: "f", Args: []api.Value{i32(2), i32(1)}},
		{Name: "f", Args: []api.Value{f64(0)}},
		{Name: "f", Args: []api.Value{f64(math.Copysign(0, -1))}},
		{Name: "f", Args: []api.Value{mach.DoubleOf(0x7ff8000000000000)}},
		{Name: "f", Result: i32(0)},
		{Name: "f", Result: i64(0)},
		{Name: "f", Result: i32(1)},
		{Name: "f", Result: api.Value{Bits: 1}},
		{Name: "f", Args: []api.Value{i32(1)}, Result: i32(1)},
	}
}

// P3.1: events are the same by name, arguments and answer.
func TestSameEvent(t *testing.T) {
	for i, a := range unlike() {
		for k, b := range unlike() {
			if trace.SameEvent(a, b) != (i == k) {
				t.Errorf("SameEvent(%v, %v) is %v", a, b, i != k)
			}
		}
	}
	if !trace.SameEvent(api.Event{Name: "f", Args: []api.Value{}}, api.Event{Name: "f"}) {
		t.Error("nil and an empty list aren't the same")
	}
}
