package trace_test

import (
	"math"
	"testing"

	"alembic/api"
	"alembic/trace"
)

// lists are rows of at most three events of three, all of them.
func lists() [][]api.Event {
	events := []api.Event{{Name: "f"}, {Name: "g"}, {Name: "f", Args: []api.Value{i32(1)}, Result: i32(2)}}
	all, last := [][]api.Event{nil}, [][]api.Event{nil}
	for range 3 {
		var next [][]api.Event
		for _, x := range last {
			for _, e := range events {
				next = append(next, append(append([]api.Event(nil), x...), e))
			}
		}
		all, last = append(all, next...), next
	}
	return all
}

// sameLists tells, without Begins, whether rows are the same.
func sameLists(a, b []api.Event) bool {
	if len(a) != len(b) {
		return false
	}
	for i := range a {
		if !trace.SameEvent(a[i], b[i]) {
			return false
		}
	}
	return true
}

// wantBegins is Begins by the document's words.
func wantBegins(a, b []api.Event) bool {
	for n := range len(b) + 1 {
		if sameLists(a, b[:n]) {
			return true
		}
	}
	return false
}

// P3.1, P3.2: what begins what, and that it is an order.
func TestBegins(t *testing.T) {
	all := lists()
	for _, a := range all {
		if !trace.Begins(a, a) || !trace.Begins(nil, a) {
			t.Errorf("%v doesn't begin itself, or nothing doesn't", a)
		}
		for _, b := range all {
			ab := trace.Begins(a, b)
			if ab != wantBegins(a, b) {
				t.Errorf("Begins(%v, %v) is %v", a, b, ab)
			}
			if ab && trace.Begins(b, a) && !sameLists(a, b) {
				t.Errorf("%v and %v begin one another", a, b)
			}
			for _, c := range all {
				if ab && trace.Begins(b, c) && !trace.Begins(a, c) {
					t.Errorf("%v, %v, %v: it doesn't go through", a, b, c)
				}
			}
		}
	}
	if !trace.Begins([]api.Event{}, nil) || trace.Begins([]api.Event{{}}, nil) {
		t.Error("of nothing")
	}
}

// outcomes are runs of each end, those that are none among them, with few traces.
func outcomes() []api.Outcome {
	f, g := api.Event{Name: "f"}, api.Event{Name: "g"}
	var all []api.Outcome
	for _, status := range []int{api.Running, api.Exited, api.Wrong, api.StackOut, 4, -1, math.MaxInt} {
		for _, events := range [][]api.Event{nil, {f}, {g}, {f, f}, {f, g}} {
			for _, code := range []int32{0, 1} {
				all = append(all, api.Outcome{Trace: events, Status: status, Code: code, Steps: len(all)})
			}
		}
	}
	return all
}

// P3.1: runs show the same by Trace, Status and Code, whatever their Steps.
func TestSame(t *testing.T) {
	all := outcomes()
	for i, a := range all {
		for k, b := range all {
			if trace.Same(a, b) != (i == k) {
				t.Errorf("Same(%v, %v) is %v", a, b, i != k)
			}
		}
		b := a
		b.Steps = -7
		if !trace.Same(a, b) {
			t.Errorf("%v: Steps play a part", a)
		}
	}
	if !trace.Same(api.Outcome{Trace: []api.Event{}}, api.Outcome{}) {
		t.Error("nil and an empty list aren't the same")
	}
}

// wantRefines is Refines by the document's words.
func wantRefines(source, target api.Outcome) bool {
	either := wantBegins(source.Trace, target.Trace) || wantBegins(target.Trace, source.Trace)
	cut := wantBegins(target.Trace, source.Trace)
	same := sameLists(source.Trace, target.Trace) && source.Code == target.Code
	return map[[2]int]bool{
		{api.Exited, api.Exited}:    same,
		{api.Exited, api.Running}:   cut,
		{api.Exited, api.StackOut}:  cut,
		{api.Running, api.Running}:  either,
		{api.Running, api.Exited}:   either,
		{api.Running, api.Wrong}:    either,
		{api.Running, api.StackOut}: either,
		{api.Wrong, api.Running}:    either,
		{api.Wrong, api.Exited}:     either,
		{api.Wrong, api.Wrong}:      either,
		{api.Wrong, api.StackOut}:   either,
	}[[2]int{source.Status, target.Status}]
}

// P3.1, P3.2: what refines what, and how far it goes through.
func TestRefines(t *testing.T) {
	all := outcomes()
	for _, a := range all {
		for _, b := range all {
			ab := trace.Refines(a, b)
			if ab != wantRefines(a, b) {
				t.Errorf("Refines(%v, %v) is %v", a, b, ab)
			}
			if !ab || b.Status != api.Exited {
				continue
			}
			for _, c := range all {
				if trace.Refines(b, c) && !trace.Refines(a, c) {
					t.Errorf("%v, %v, %v: it doesn't go through", a, b, c)
				}
			}
		}
	}
}

// P3.1: the rows of Refines that are easily mistaken for others.
func TestRefinesRows(t *testing.T) {
	f, g := api.Event{Name: "f"}, api.Event{Name: "g"}
	run := func(status int, code int32, events ...api.Event) api.Outcome {
		return api.Outcome{Trace: events, Status: status, Code: code}
	}
	for _, x := range []struct {
		source, target api.Outcome
		want           bool
	}{
		{run(api.Exited, 3, f), run(api.Exited, 3, f), true},
		{run(api.Exited, 3, f), run(api.Exited, 4, f), false},
		{run(api.Exited, 3, f), run(api.Exited, 3), false},
		{run(api.Exited, 3, f), run(api.Wrong, 0, f), false},
		{run(api.Exited, 3, f), run(api.StackOut, 0), true},
		{run(api.Exited, 3, f), run(api.Running, 9, f), true},
		{run(api.Exited, 3, f), run(api.Running, 0, f, g), false},
		{run(api.Exited, 3, f), run(api.StackOut, 0, g), false},
		{run(api.Wrong, 0, f), run(api.Exited, 7, f, g), true},
		{run(api.Wrong, 0, f, g), run(api.StackOut, 0, f), true},
		{run(api.Wrong, 0, f), run(api.Wrong, 0, g), false},
		{run(api.Wrong, 0, f), run(4, 0, f), false},
		{run(api.Running, 0, f), run(-1, 0, f), false},
		{run(api.Exited, 0, f), run(4, 0, f), false},
		{run(api.StackOut, 0, f), run(api.StackOut, 0, f), false},
		{run(api.StackOut, 0), run(api.Running, 0), false},
		{run(4, 0), run(4, 0), false},
		{run(4, 0), run(api.Exited, 0), false},
	} {
		if got := trace.Refines(x.source, x.target); got != x.want {
			t.Errorf("Refines(%v, %v) is %v", x.source, x.target, got)
		}
	}
}
