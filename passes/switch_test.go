package passes

import (
	"fmt"
	"math"
	"slices"
	"testing"

	"alembic/api"
	"alembic/core"
	"alembic/trace"
)

// mostMore is how many steps more a switch may take than where it goes to; n cases, the default counted (P12.3).
func mostMore(n int) int { return int(3 * (math.Log2(float64(n+1)) + 2)) }

// asking is a switch over what a function from outside answers.
type asking struct {
	long   bool
	values []int64
	other  int  // ahead of which case the default stands; below 0: there is none
	leaves bool // each case ends with a Break
	held   bool // what is asked is no temporary
}

func (a asking) String() string {
	return fmt.Sprintf("long %v, default %d, leaves %v, held %v, %d cases", a.long, a.other, a.leaves, a.held, len(a.values))
}

// cases is how many there are, the default counted.
func (a asking) cases() int {
	if a.other < 0 {
		return len(a.values)
	}
	return len(a.values) + 1
}

// bits is a case's Value.
func (a asking) bits(n int64) uint64 {
	if a.long {
		return uint64(n)
	}
	return uint64(uint32(int32(n)))
}

func show(n int) api.Stmt { return invoke(-1, "show", "iv", i32(int32(n))) }

func (a asking) items() []api.Item {
	var items []api.Item
	add := func(n int) {
		items = append(items, api.Item{S: show(n)})
		if a.leaves {
			items = append(items, api.Item{S: api.Break{}.Stmt()})
		}
	}
	for i := range len(a.values) + 1 {
		if i == a.other {
			items = append(items, api.Item{Default: true})
			add(-1)
		}
		if i < len(a.values) {
			items = append(items, api.Item{Case: true, Value: a.bits(a.values[i])})
			add(i)
		}
	}
	return items
}

func (a asking) unit() api.Unit {
	x, name, sig, none := temp(0), "int", "ii", i32(0)
	if a.long {
		name, sig, none = "long", "ll", i64(0)
	}
	if a.held {
		x = op2(api.OpXor, x, none)
		if a.long {
			x = op2(api.OpXor+api.OfLong, temp(0), none)
		}
	}
	s := api.Switch{X: x, Long: a.long, Items: a.items()}.Stmt()
	return unitWith(api.Func{Name: "main", Sig: sigOf("i"), Temps: 1, Body: []api.Stmt{invoke(0, name, sig, none), s, show(-2), ret(i32(7))}})
}

// check asks for what is done for each case, and beside it.
func (a asking) check(t *testing.T) {
	t.Helper()
	u := a.unit()
	sels := []api.Unit{selOf(t, a.String(), api.RV64, u), selOf(t, a.String(), api.X64, u)}
	asked := []int64{0, 1, -1, math.MaxInt32, math.MinInt32, math.MaxInt64, math.MinInt64, 1 << 32}
	for i, v := range a.values {
		if i%(1+len(a.values)/15) == 0 {
			asked = append(asked, v, v-1, v+1)
		}
	}
	for _, n := range asked {
		before := core.Run(u, nil, []int64{n}, api.MaxFuel)
		for i, target := range targets {
			o := core.Run(sels[i], nil, []int64{n}, api.MaxFuel)
			if before.Status != api.Exited || !trace.Same(before, o) {
				t.Errorf("%v, target %d, %d: %s, not %s", a, target, n, shown(o), shown(before))
			}
			if more := o.Steps - before.Steps; more > mostMore(a.cases()) || more < 0 {
				t.Errorf("%v, target %d, %d: %d steps more", a, target, n, more)
			}
		}
	}
}

// caseLists are values of so many cases: close to one another, far apart, in some order.
func caseLists(n int) [][]int64 {
	lists := make([][]int64, 5)
	for i := range int64(n) {
		lists[0] = append(lists[0], i)
		lists[1] = append(lists[1], int64(n)-2*i)
		lists[2] = append(lists[2], (i*7%13-6)*1021+2047+i)
		lists[3] = append(lists[3], int64(int32(i*1664525*40503)))
		lists[4] = append(lists[4], []int64{math.MaxInt32, math.MinInt32, 0, -1}[i%4]^i/4)
	}
	for i, list := range lists {
		lists[i] = distinct(list)
	}
	return lists
}

// P12.2, P12.3: where switches go, and how long that takes.
func TestSwitches(t *testing.T) {
	for n := range 8 {
		for _, values := range caseLists(n) {
			for way := range 8 {
				for _, other := range []int{-1, (n + way) % (n + 1)} {
					asking{long: way&1 != 0, leaves: way&2 != 0, held: way&4 != 0, values: values, other: other}.check(t)
				}
			}
		}
	}
	for i, n := range []int{8, 9, 12, 15, 16, 17, 31, 32, 33, 63, 64, 65, 127, 128, 129, 300} {
		for k, values := range caseLists(n) {
			asking{long: k%2 != i%2, leaves: i%3 != 0, held: i%4 == 0, values: values, other: n*(i%4)/2 - 1}.check(t)
		}
	}
	wide := make([]int64, 1000)
	for i := range wide {
		wide[i] = int64(i) * 0x9e3779b97f4a7c // of Longs alone
	}
	asking{long: true, values: wide, other: 500, leaves: true}.check(t)
	asking{long: true, values: []int64{math.MinInt64, math.MaxInt64, 1 << 31, -1<<31 - 1, 1 << 32, 0, -1}, other: -1}.check(t)
}

// distinct is a list without what stands ahead in it.
func distinct(list []int64) []int64 {
	var made []int64
	for _, n := range list {
		if !slices.Contains(made, n) {
			made = append(made, n)
		}
	}
	return made
}

// P12.2: the first case of a value counts, the first default, and what an Int can't be is never gone to.
func TestOddCases(t *testing.T) {
	of := func(long bool, items ...api.Item) api.Unit {
		x := api.Switch{X: temp(0), Long: long}
		for n, i := range items {
			x.Items = append(x.Items, i, api.Item{S: show(n)})
		}
		name, sig, none := "int", "ii", i32(0)
		if long {
			name, sig, none = "long", "ll", i64(0)
		}
		return unitWith(api.Func{Name: "main", Sig: sigOf("i"), Temps: 1, Body: []api.Stmt{invoke(0, name, sig, none), x.Stmt(), ret(i32(0))}})
	}
	at := func(n int64) api.Item { return api.Item{Case: true, Value: uint64(n)} }
	other := api.Item{Default: true}
	for _, u := range []api.Unit{
		of(false, at(1), at(1), at(2), at(1)),
		of(true, at(2), at(1), at(2), at(1), at(0), at(0)),
		of(false, other, at(1), other),
		of(false, at(1), other, at(2), other),
		of(false, at(1<<32), at(1<<32+1), at(1), at(-1)),
		of(true, at(1<<32), at(1<<32+1), at(1), at(-1)),
		of(false, at(1<<32)),
		of(false, at(1<<32-1), other),
		of(false, api.Item{Case: true, Value: 1, Default: true}, at(2)),
		of(false, api.Item{S: show(8), Case: true, Value: 1}, api.Item{S: show(9), Default: true}),
		of(true, api.Item{}, at(1), api.Item{}),
		of(false),
		of(true),
	} {
		for _, target := range targets {
			sel := chosen(t, target, u)
			for _, n := range []int64{0, 1, 2, 3, -1, 1 << 32, 1<<32 + 1} {
				for _, fuel := range []int{0, 1, 2, 3, 4, 5, 9, api.MaxFuel} {
					compareEnds(t, unitText(u), u, sel, []int64{n}, api.MaxFuel, fuel)
				}
			}
		}
	}
}

// P12.2: a switch over what is no number of its kind goes wrong, however few cases there are.
func TestWrongSwitches(t *testing.T) {
	wrong := []api.Stmt{set(1, i32(0)), set(0, i32(1)), set(0, i64(1)), set(0, frame(0)), set(0, global("show")), set(0, op2(api.OpAdd+api.OfLong, frame(8), i64(-8))), set(0, api.Num{}.Expr())}
	for _, long := range []bool{false, true} {
		for _, values := range [][]int64{nil, {0}, {1}, {0, 1}, {-1, 0}, {0, 1, 2, 3}, {5, 3, 0, -9, 8}} {
			for _, other := range []int{-1, 0, len(values)} {
				for i, ahead := range wrong {
					a := asking{long: long, values: values, other: other}
					asked := api.Switch{X: temp(0), Long: long, Items: a.items()}.Stmt()
					u := unitWith(api.Func{Name: "main", Sig: sigOf("i"), Temps: 2, Frame: 8, Body: []api.Stmt{ahead, show(3), asked, show(4), ret(i32(0))}})
					o := core.Run(u, nil, nil, api.MaxFuel)
					if rightOne := !long && i == 1 || long && i == 2; rightOne != (o.Status == api.Exited) {
						t.Fatalf("%v: %s", a, shown(o))
					}
					for _, target := range targets {
						if got := core.Run(chosen(t, target, u), nil, nil, api.MaxFuel); !trace.Same(o, got) {
							t.Errorf("%v, target %d: %s, not %s", a, target, shown(got), shown(o))
						}
					}
				}
			}
		}
	}
}

// P12.1: labels that are new are none of those that are there, wherever these stand.
func TestLabelsAreNew(t *testing.T) {
	for n := range 12 {
		label := func(n int) []api.Stmt { return []api.Stmt{api.Label{Name: fmt.Sprint(".", n)}.Stmt()} }
		choice := api.Switch{X: temp(0), Items: []api.Item{{Case: true, Value: 1}, {S: label(n)[0]}, {S: api.Block{List: label(n + 1)}.Stmt()}, {Default: true}, {S: api.Break{}.Stmt()}}}.Stmt()
		body := []api.Stmt{
			set(0, i32(1)), choice,
			api.Loop{Test: i32(0), Body: label(n + 2), Step: label(n + 4)}.Stmt(),
			api.If{X: i32(1), Then: label(n + 5), Else: label(n + 6)}.Stmt(),
			api.Goto{Name: fmt.Sprint(".", n+7)}.Stmt(), show(1), label(n + 7)[0], ret(i32(2)),
		}
		u := unitWith(api.Func{Name: "main", Sig: sigOf("i"), Temps: 1, Body: body})
		row{"labels", nil, "exited 2"}.checkMinor(t, u)
	}
}

// P12.2: what leaves a switch, and what leaves a loop that is around it or within it.
func TestLeavingSwitches(t *testing.T) {
	for _, r := range []row{
		{"int n; while ((n = get(0)) >= 0) { switch (n) { case 0: break; case 1: put(1); continue; case 2: switch (get(1)) { case 0: break; case 1: continue; default: put(9); break; case 2: goto out; } put(2); break; default: put(n); } put(100); } out: return n;", []int64{0, 0, 1, 0, 2, 0, 0, 0, 2, 1, 2, 7, 0, 0, 0, 5, 0, 0, 2, 2}, "get(0) = 0\nput(100)\nget(0) = 1\nput(1)\nget(0) = 2\nget(1) = 0\nput(2)\nput(100)\nget(0) = 2\nget(1) = 1\nget(0) = 2\nget(1) = 7\nput(9)\nput(2)\nput(100)\nget(0) = 5\nput(5)\nput(100)\nget(0) = 2\nget(1) = 2\nexited 2"},
		{"for (int i = 0; i < 5; put(200), i++) switch (i) { case 1: continue; case 3: put(3); default: put(50); break; case 4: for (;;) { put(4); break; } put(44); } return 1;", nil, "put(50)\nput(200)\nput(200)\nput(50)\nput(200)\nput(3)\nput(50)\nput(200)\nput(4)\nput(44)\nput(200)\nexited 1"},
		{"int n = 0; do { switch (n++) { case 0: continue; case 1: do { if (n == 2) break; put(77); } while (1); put(1); case 2: break; default: put(n); while (1) { switch (n) { case 4: break; default: put(6); } break; } } put(10); } while (n < 5); return n;", nil, "put(1)\nput(10)\nput(10)\nput(4)\nput(10)\nput(5)\nput(6)\nput(10)\nexited 5"},
		{"int n = 0; goto in; again: switch (n) { case 5: put(5); in: put(6); n++; break; case 1: put(1); n = 5; goto again; } put(n); if (n < 6) goto again; return n;", nil, "put(6)\nput(1)\nput(1)\nput(5)\nput(6)\nput(6)\nexited 6"},
		{"switch (get(0)) { case 1: switch (get(1)) { case 1: switch (get(2)) { case 1: put(3); break; default: break; } put(2); break; } put(1); break; } return 0;", []int64{1, 1, 1}, "get(0) = 1\nget(1) = 1\nget(2) = 1\nput(3)\nput(2)\nput(1)\nexited 0"},
		{"char c = -1; switch (c) { case 255: put(1); break; case -1: put(2); } unsigned char u = -1; switch (u) { case -1: put(3); break; case 255: put(4); } unsigned n = -1; switch (n) { case -1: put(5); } return 0;", nil, "put(2)\nput(4)\nput(5)\nexited 0"},
		{"long l = 4294967297; switch (l) { case 1: put(1); break; case 4294967297: put(2); } unsigned long u = -1; switch (u) { case 4294967295: put(3); break; case -1: put(4); } return 0;", nil, "put(2)\nput(4)\nexited 0"},
		{"int x; put(1); switch (x) { case 0: put(2); default: put(3); } return 0;", nil, "put(1)\nwrong"},
		{"int x; put(1); switch (x) { } return 0;", nil, "put(1)\nwrong"},
		{"long x; *(int **) &x = &g; put(1); switch (x) { case 0: put(2); } return 0;", nil, "put(1)\nwrong"},
		{"switch (get(0)) { default: } switch (get(1)) { } return 3;", nil, "get(0) = 0\nget(1) = 0\nexited 3"},
	} {
		r.text = outside + "int main() { " + r.text + " }"
		r.check(t)
	}
}

// P12.2: a Break in a loop's steps leaves the loop, in a switch too; one in a switch in a loop's steps leaves that.
func TestSwitchesInSteps(t *testing.T) {
	leave := api.Break{}.Stmt()
	counted := set(0, op2(api.OpAdd, temp(0), i32(1)))
	within := api.Switch{X: temp(0), Items: []api.Item{{Case: true, Value: 2}, {S: show(2)}, {S: leave}, {Default: true}, {S: show(9)}}}.Stmt()
	steps := []api.Stmt{counted, within, api.If{X: op2(api.OpEq, temp(0), i32(3)), Then: []api.Stmt{leave}}.Stmt()}
	loop := api.Loop{Test: i32(1), Body: []api.Stmt{show(1), api.Continue{}.Stmt()}, Step: steps}.Stmt()
	outer := api.Switch{X: i64(5), Long: true, Items: []api.Item{{Case: true, Value: 5}, {S: loop}, {S: show(5)}, {S: leave}, {S: show(99)}}}.Stmt()
	u := unitWith(api.Func{Name: "main", Sig: sigOf("i"), Temps: 1, Body: []api.Stmt{set(0, i32(0)), outer, ret(temp(0))}})
	row{"steps", nil, "show(1)\nshow(9)\nshow(1)\nshow(2)\nshow(1)\nshow(9)\nshow(5)\nexited 3"}.checkMinor(t, u)
}
