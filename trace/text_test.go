package trace_test

import (
	"math"
	"testing"

	"alembic/api"
	"alembic/mach"
	"alembic/trace"
)

// P3.1: the document's example, and what is near to it.
func TestTextOfEvents(t *testing.T) {
	put := api.Event{Name: "put", Args: []api.Value{i32(1), i64(2)}, Result: i32(3)}
	for _, x := range []struct {
		events []api.Event
		want   string
	}{
		{nil, ""},
		{[]api.Event{{Name: "stop"}}, "stop()\n"},
		{[]api.Event{put, {Name: "stop", Args: []api.Value{}}}, "put(1, 2L) = 3\nstop()\n"},
		{[]api.Event{put, put}, "put(1, 2L) = 3\nput(1, 2L) = 3\n"},
		{[]api.Event{{}}, "()\n"},
		{[]api.Event{{Name: "é\n%", Args: []api.Value{f64(1)}, Result: i64(-1)}}, "é\n%(0x3ff0000000000000) = -1L\n"},
		{[]api.Event{{Name: "f", Args: []api.Value{none, none, mach.PtrOf(1, 2)}}}, "f(undef, undef, ptr)\n"},
	} {
		if got := trace.Text(api.Outcome{Trace: x.events, Status: api.Exited}); got != x.want+"exited 0\n" {
			t.Errorf("%v: %q", x.events, got)
		}
	}
}

// P3.1: how values are written, as arguments and as answers.
func TestTextOfValues(t *testing.T) {
	for _, x := range []struct {
		v    api.Value
		want string
	}{
		{i32(0), "0"},
		{i32(-1), "-1"},
		{i32(math.MinInt32), "-2147483648"},
		{i32(math.MaxInt32), "2147483647"},
		{api.Value{Kind: api.Int, Bits: 1<<32 + 5, Block: 3}, "5"},
		{i64(0), "0L"},
		{i64(-12), "-12L"},
		{i64(math.MinInt64), "-9223372036854775808L"},
		{i64(math.MaxInt64), "9223372036854775807L"},
		{mach.DoubleOf(0), "0x0000000000000000"},
		{mach.DoubleOf(10), "0x000000000000000a"},
		{mach.DoubleOf(math.MaxUint64), "0xffffffffffffffff"},
		{mach.DoubleOf(0x0123456789abcdef), "0x0123456789abcdef"},
		{mach.DoubleOf(0x7ff8000000000000), "0x7ff8000000000000"},
		{mach.PtrOf(1, -5), "ptr"},
		{api.Value{Kind: api.Ptr}, "ptr"},
		{api.Value{Kind: 5}, "undef"},
		{api.Value{Kind: -1, Bits: 4}, "undef"},
	} {
		e := api.Event{Name: "f", Args: []api.Value{x.v}, Result: x.v}
		want := "f(" + x.want + ") = " + x.want + "\nrunning\n"
		if got := trace.Text(api.Outcome{Trace: []api.Event{e}}); got != want {
			t.Errorf("%v: %q", x.v, got)
		}
	}
	e := api.Event{Name: "f", Args: []api.Value{none, {Bits: 1, Block: 1}}, Result: api.Value{Bits: 1}}
	if got := trace.Text(api.Outcome{Trace: []api.Event{e}}); got != "f(undef, undef)\nrunning\n" {
		t.Errorf("undefined: %q", got)
	}
}

// P3.1: the last line tells the end.
func TestTextOfEnds(t *testing.T) {
	for _, x := range []struct {
		status int
		code   int32
		want   string
	}{
		{api.Running, 0, "running\n"},
		{api.Running, 7, "running\n"},
		{api.Exited, 0, "exited 0\n"},
		{api.Exited, -1, "exited -1\n"},
		{api.Exited, math.MinInt32, "exited -2147483648\n"},
		{api.Exited, math.MaxInt32, "exited 2147483647\n"},
		{api.Wrong, 7, "wrong\n"},
		{api.StackOut, 7, "stack out\n"},
		{4, 7, "unknown\n"},
		{-1, 0, "unknown\n"},
		{math.MaxInt, 0, "unknown\n"},
	} {
		if got := trace.Text(api.Outcome{Status: x.status, Code: x.code, Steps: 5}); got != x.want {
			t.Errorf("%d: %q, not %q", x.status, got, x.want)
		}
	}
}
