package core_test

import (
	"slices"
	"testing"

	"alembic/api"
	"alembic/core"
)

// P8.1: which parts a pick orders, and when it is taken.
func TestPicks(t *testing.T) {
	const text = "extern int a(); extern int b(); extern int c(); extern int f(int x, int y, int z); extern void v(int x); int z; int *place(int x) { v(x); return &z; } struct r { int i; }; struct r s; int sum(int x, int y) { return x * 10 + y; } "
	rows := []struct {
		body  string
		picks []int
		want  string
	}{
		{"return a() + b();", []int{0}, "a() = 1; b() = 2; exited 3"},
		{"return a() - b();", []int{1}, "b() = 1; a() = 2; exited 1"},
		{"return a() - b();", []int{0, 1}, "a() = 1; b() = 2; exited -1"},
		// other picks are held by whether they are even
		{"return a() - b();", []int{2}, "a() = 1; b() = 2; exited -1"},
		{"return a() - b();", []int{-2}, "a() = 1; b() = 2; exited -1"},
		{"return a() - b();", []int{-1}, "b() = 1; a() = 2; exited 1"},
		{"return a() - b();", []int{7}, "b() = 1; a() = 2; exited 1"},
		{"return a() - b();", []int{-1 << 63}, "a() = 1; b() = 2; exited -1"},
		{"return a() - b();", []int{1<<63 - 1}, "b() = 1; a() = 2; exited 1"},
		// the outer one is picked first, then those within the part that comes first
		{"return (a() - b()) - c();", []int{0, 1}, "b() = 1; a() = 2; c() = 3; exited -2"},
		{"return (a() - b()) - c();", []int{0, 0, 1}, "a() = 1; b() = 2; c() = 3; exited -4"},
		{"return (a() - b()) - c();", []int{1}, "c() = 1; a() = 2; b() = 3; exited -2"},
		{"return (a() - b()) - c();", []int{1, 0, 1}, "c() = 1; b() = 2; a() = 3; exited 0"},
		{"return (a() - b()) - c();", []int{1, 1, 1}, "c() = 1; b() = 2; a() = 3; exited 0"},
		{"return (a() - b()) - c();", []int{0, 0, 0, 0, 1}, "a() = 1; b() = 2; c() = 3; exited -4"},
		// a call: its F and all its Args
		{"return f(a(), b(), c());", []int{0}, "a() = 1; b() = 2; c() = 3; f(1, 2, 3) = 4; exited 4"},
		{"return f(a(), b(), c());", []int{1}, "c() = 1; b() = 2; a() = 3; f(3, 2, 1) = 4; exited 4"},
		{"return (a(), f)(b(), 5, c());", []int{0}, "a() = 1; b() = 2; c() = 3; f(2, 5, 3) = 4; exited 4"},
		{"return (a(), f)(b(), 5, c());", []int{1}, "c() = 1; b() = 2; a() = 3; f(2, 5, 1) = 4; exited 4"},
		{"return sum(a(), b());", []int{1}, "b() = 1; a() = 2; exited 21"},
		// a call of one part takes a pick, too
		{"return (a() - b()) + 0;", []int{0, 0, 0, 0, 0, 1}, "a() = 1; b() = 2; exited -1"},
		{"return a() * 0 + (b() - c());", []int{0, 0, 0, 1}, "a() = 1; c() = 2; b() = 3; exited 1"},
		{"return a() * 0 + (b() - c());", []int{0, 0, 1}, "a() = 1; b() = 2; c() = 3; exited -1"},
		// Assign
		{"*place(5) = a(); return z;", []int{0}, "v(5); a() = 2; exited 2"},
		{"*place(5) = a(); return z;", []int{1}, "a() = 1; v(5); exited 1"},
		// Modify: the old value is loaded behind both
		{"z = 7; *place(5) += a(); return z;", []int{0, 0}, "v(5); a() = 2; exited 9"},
		{"z = 7; *place(5) += a(); return z;", []int{0, 1}, "a() = 1; v(5); exited 8"},
		{"z = 7; z += (z = 1); return z;", []int{0, 0}, "exited 2"},
		{"z = 7; z += (z = 1); return z;", []int{0, 1}, "exited 2"},
		{"z = 7; z = z + (z = 1); return z;", []int{0, 0, 0}, "exited 8"},
		{"z = 7; z = z + (z = 1); return z;", []int{0, 0, 1}, "exited 2"},
		// a Modify's own operation takes one behind those of its parts
		{"z += a(); return b() - c();", []int{0, 0, 0, 1}, "a() = 1; c() = 2; b() = 3; exited 1"},
		{"z += a(); return b() - c();", []int{0, 0, 1}, "a() = 1; b() = 2; c() = 3; exited -1"},
		{"z++; return b() - c();", []int{0, 0, 1}, "c() = 1; b() = 2; exited 1"},
		{"z++; return b() - c();", []int{0, 1}, "b() = 1; c() = 2; exited -1"},
		// the operations in a function are picked as they come
		{"return sum(1, 2) * 0 + (b() - c());", []int{0, 0, 0, 0, 0, 1}, "c() = 1; b() = 2; exited 1"},
		{"return sum(1, 2) * 0 + (b() - c());", []int{0, 0, 0, 0, 1}, "b() = 1; c() = 2; exited -1"},
		// nothing else takes one
		{"int x = (a(), b()); { x; } if (x ? x : 0) x && x || !x; while (0) ; switch (-x) { } return b() - c();", []int{0, 0, 0, 1}, "a() = 1; b() = 2; c() = 3; b() = 4; exited 1"},
		{"return (1, 2) && (s.i || 3) && !0 ? -(b() - c()) : 0;", []int{1}, "c() = 1; b() = 2; exited -1"},
		{"return (a() && b()) - (a() || b());", []int{0}, "a() = 1; b() = 2; a() = 3; exited 0"},
		{"return (a() && b()) - (a() || b());", []int{1}, "a() = 1; a() = 2; b() = 3; exited 0"},
	}
	for _, r := range rows {
		row{text: text + "int main() { " + r.body + " }", picks: r.picks, script: []int64{1, 2, 3, 4, 5, 6}, want: r.want}.check(t)
	}
}

// P8.1: the statements of Light, Minor and Sel take no picks, but for the operations in them.
func TestPicksOfStatements(t *testing.T) {
	sub := sigOf("iii")
	f := api.Func{Name: "f", Sig: sub, Params: []int{-1, -2}, Temps: 2, Body: []api.Stmt{ret(op2(api.OpSub, temp(0), temp(1)))}}
	body := []api.Stmt{
		set(0, i32(1)), put(api.C32, frame(0), 0, temp(0)), invoke(1, "f", sub, temp(0), load(api.C32, frame(0), 0)), set(1, opI(api.OpAdd, temp(1), 1)),
		do(op2(api.OpSub, calls("int", sigOf("ii"), i32(1)), calls("int", sigOf("ii"), i32(2)))), ret(temp(1)),
	}
	main := api.Func{Name: "main", Sig: sigOf("i"), Frame: 8, Temps: 2, Body: body}
	for i, want := range []string{
		"int(1) = 7; int(2) = 0; exited 1 [9]", // the pick of f's Op2
		"int(2) = 7; int(1) = 0; exited 1 [9]",
		"int(1) = 7; int(2) = 0; exited 1 [9]",
	} {
		picks := make([]int, 3)
		picks[i] = 1
		if got := shown(core.Run(unitWith(main, f), picks, []int64{7}, api.MaxFuel)); got != want {
			t.Errorf("%v: %s, not %s", picks, got, want)
		}
	}
}

// P8.1: whatever the order, an operation's operands stand as they stood.
func TestOrderOfOperands(t *testing.T) {
	const text = "extern void put(int a); long pick(long a, int b, double c, int d) { return a * 1000 + b * 100 + (int) c * 10 + d; } int main() { int x[4]; x[3] = 8; int *p = x; p += 3; *p -= 3; put(x[3]); put(7 - 2); put(1 << 3); put(p - x); put(x < p); put((int) pick(1, 2, 3.5, 4)); return *(x + 3) / 2; }"
	u := unitOf(t, text)
	want := core.Run(u, nil, nil, api.MaxFuel)
	if shown(want) != "put(5); put(5); put(8); put(3); put(1); put(1234); exited 2 [14]" {
		t.Error(shown(want))
	}
	for _, picks := range [][]int{slices.Repeat([]int{1}, 60), slices.Repeat([]int{0, 1}, 40), slices.Repeat([]int{1, 0}, 40), slices.Repeat([]int{0, 1, 1}, 30)} {
		if got := core.Run(u, picks, nil, api.MaxFuel); !sameOutcome(got, want) {
			t.Errorf("%v: %s", picks[:3], shown(got))
		}
	}
}
