package core_test

import (
	"testing"

	"alembic/api"
	"alembic/core"
	"alembic/mach"
)

// Units that no layer answers end, too: Wrong, where what isn't there is come to.
func TestOddUnits(t *testing.T) {
	none, one := api.Expr{}, i32(1)
	i := sigOf("ii")
	f := func(params ...int) api.Func {
		return api.Func{Name: "f", Sig: i, Params: params, Locals: []api.Slot{{Size: 4, Chunk: api.C32}}, Body: []api.Stmt{ret(one)}}
	}
	for _, r := range []struct {
		what string
		u    api.Unit
		want string
	}{
		{"nothing", api.Unit{}, "wrong [0]"},
		{"main from outside", api.Unit{Externs: []api.Extern{{Name: "main", Sig: sigOf("i")}}}, "wrong [0]"},
		{"a main with a parameter", unitWith(api.Func{Name: "main", Sig: i, Params: []int{-1}, Body: []api.Stmt{ret(one)}}), "wrong [0]"},
		{"a main without a result", unitWith(api.Func{Name: "main", Sig: sigOf("v"), Body: []api.Stmt{ret(one)}}), "wrong [2]"},
		{"a main with a Long", unitWith(mainOf(ret(i64(1)))), "wrong [2]"},
		{"a main with an address", unitWith(mainOf(ret(global("main")))), "wrong [2]"},
		{"an unknown statement", unitWith(mainOf(api.Stmt{Kind: 99}, api.Stmt{}, ret(one))), "exited 1 [2]"},
		{"an unknown expression", unitWith(mainOf(do(api.Expr{Kind: 99}))), "wrong [2]"},
		{"no expression", unitWith(mainOf(do(none))), "wrong [2]"},
		{"no operands", unitWith(mainOf(do(api.Expr{Kind: api.KOp2, A: api.OpAdd}))), "wrong [2]"},
		{"no test", unitWith(mainOf(api.If{}.Stmt(), ret(one))), "wrong [2]"},
		{"a call of nothing", unitWith(mainOf(do(api.Expr{Kind: api.KCall}))), "wrong [2]"},
		{"an Invoke of nothing", unitWith(mainOf(api.Stmt{Kind: api.KInvoke})), "wrong [2]"},
		{"Old outside of a Modify", unitWith(mainOf(do(api.Old{}.Expr()))), "wrong [2]"},
		{"Arg outside of a Modify", unitWith(mainOf(do(api.Modify{Chunk: api.C32, Addr: frame(0), Y: api.Arg{}.Expr(), New: one}.Expr()))), "wrong [2]"},
		{"an unknown name", unitWith(mainOf(do(global("x")))), "wrong [2]"},
		{"an unknown local", unitWith(mainOf(do(local(0)))), "wrong [2]"},
		{"a local below 0", unitWith(mainOf(do(local(-1)))), "wrong [2]"},
		{"an unknown temporary", unitWith(mainOf(set(1<<40, one), ret(temp(1<<40)))), "exited 1 [3]"},
		{"an unknown temporary, undefined", unitWith(mainOf(ret(temp(-5)))), "wrong [2]"},
		{"an unknown operation", unitWith(mainOf(ret(op2(999, one, one)))), "wrong [2]"},
		{"OpI of an unknown operation", unitWith(mainOf(ret(opI(-4, one, 1)))), "wrong [2]"},
		{"an unknown chunk", unitWith(mainOf(ret(load(9, global("main"), 0)))), "wrong [2]"},
		{"a Break of nothing", unitWith(mainOf(api.Break{}.Stmt())), "wrong [1]"},
		{"a Continue of nothing", unitWith(mainOf(api.Switch{X: one, Items: []api.Item{{Default: true}, {S: api.Continue{}.Stmt()}}}.Stmt())), "wrong [2]"},
		{"a Goto to nothing", unitWith(mainOf(api.Goto{Name: "a"}.Stmt())), "wrong [2]"},
		{"a label of another function", unitWith(mainOf(api.Goto{Name: "a"}.Stmt()), api.Func{Name: "f", Body: []api.Stmt{api.Label{Name: "a"}.Stmt()}}), "wrong [2]"},
		{"too few arguments", unitWith(mainOf(do(calls("f", i))), f(0)), "wrong [2]"},
		{"too many arguments", unitWith(mainOf(do(calls("f", i, one, one))), f(0)), "wrong [2]"},
		{"too few arguments for outside", unitWith(mainOf(do(calls("int", i)))), "wrong [2]"},
		{"too few parameters", unitWith(mainOf(do(calls("f", i, one))), f()), "wrong [2]"},
		{"a parameter that is nothing", unitWith(mainOf(do(calls("f", i, one))), f(1)), "wrong [3]"},
		{"a frame below 0", unitWith(api.Func{Name: "main", Sig: sigOf("i"), Frame: -1, Body: []api.Stmt{put(api.C8S, frame(0), 0, one)}}), "wrong [2]"},
		{"a frame that is too great", unitWith(api.Func{Name: "main", Sig: sigOf("i"), Frame: api.MaxFrame + 1, Body: []api.Stmt{put(api.C8S, frame(0), 0, one)}}), "wrong [2]"},
		{"the greatest frame", unitWith(api.Func{Name: "main", Sig: sigOf("i"), Frame: api.MaxFrame, Body: []api.Stmt{put(api.C8S, frame(0), api.MaxFrame-1, one), ret(load(api.C8S, frame(api.MaxFrame-1), 0))}}), "exited 1 [3]"},
		{"a variable below 0", api.Unit{Vars: []api.Var{{Name: "x", Size: -1}}, Funcs: []api.Func{mainOf(ret(load(api.C8S, global("x"), 0)))}}, "wrong [2]"},
		{"a datum beyond", api.Unit{Vars: []api.Var{{Name: "x", Size: 3, Init: []api.Datum{{Chunk: api.C32, V: mach.IntOf(1)}}}}, Funcs: []api.Func{mainOf(ret(one))}}, "wrong [0]"},
		{"a datum of another kind", api.Unit{Vars: []api.Var{{Name: "x", Size: 8, Init: []api.Datum{{Chunk: api.C64, V: mach.IntOf(1)}}}}, Funcs: []api.Func{mainOf(ret(one))}}, "wrong [0]"},
		{"a case twice", unitWith(mainOf(api.Switch{X: one, Items: []api.Item{{Case: true, Value: 1}, {S: ret(i32(5))}, {Case: true, Value: 1}, {Default: true}, {Default: true}}}.Stmt())), "exited 5 [3]"},
	} {
		wantRun(t, r.what, r.u, r.want)
	}
}

// A variable that is fixed has its zeros, too, and nothing is stored there.
func TestFixed(t *testing.T) {
	u := api.Unit{Vars: []api.Var{{Name: "x", Size: 1003, Fixed: true, Init: []api.Datum{{At: 600, Chunk: api.C32, V: mach.IntOf(9)}}}}}
	sum := op2(api.OpAdd, load(api.C8S, global("x"), 1002), op2(api.OpAdd, load(api.C32, global("x"), 0), load(api.C32, global("x"), 600)))
	u.Funcs = []api.Func{mainOf(ret(sum))}
	wantRun(t, "loads", u, "exited 9 [2]")
	for _, off := range []int{0, 256, 512, 1002} {
		u.Funcs = []api.Func{mainOf(put(api.C8S, global("x"), off, i32(0)))}
		wantRun(t, "a store", u, "wrong [2]")
	}
}

// A Continue within a loop's steps goes to where they begin: where nothing is done there, for ever.
func TestContinueInSteps(t *testing.T) {
	again := api.Continue{}.Stmt()
	round := func(steps ...api.Stmt) api.Stmt { return api.Loop{Step: steps}.Stmt() }
	less := api.If{X: opI(api.OpLt, temp(0), 3), Then: []api.Stmt{again}}.Stmt()
	more := set(0, opI(api.OpAdd, temp(0), 1))
	for _, r := range []struct {
		what string
		body []api.Stmt
		want string
	}{
		{"nothing else", []api.Stmt{round(again)}, "running [2]"},
		{"within a loop", []api.Stmt{round(round(again))}, "running [3]"},
		{"a loop that is left", []api.Stmt{round(api.Loop{After: true, Body: []api.Stmt{api.Break{}.Stmt()}}.Stmt(), again)}, "running [2]"},
		{"what ends", []api.Stmt{set(0, i32(0)), round(more, less, api.Break{}.Stmt()), ret(temp(0))}, "exited 3 [10]"},
		{"what takes steps", []api.Stmt{set(0, i32(0)), round(more, again)}, "running [65536]"},
	} {
		wantRun(t, r.what, unitWith(mainOf(r.body...)), r.want)
	}
	// The inner activation is left right behind its Continue, and the outer one comes to the same one without a step between.
	inner := api.If{X: temp(0), Then: []api.Stmt{invoke(-1, "f", sigOf("iv"), opI(api.OpAdd, temp(0), -1))}}.Stmt()
	twice := api.Func{Name: "f", Sig: sigOf("iv"), Params: []int{-1}, Body: []api.Stmt{
		api.Goto{Name: "in"}.Stmt(), round(api.Break{}.Stmt(), api.Label{Name: "in"}.Stmt(), inner, again),
	}}
	wantRun(t, "in two activations", unitWith(mainOf(invoke(-1, "f", sigOf("iv"), i32(1)), ret(i32(4))), twice), "exited 4 [10]")
}

// Parts that are nested as deep as they may be, in calls as deep as they may be.
func TestDeepParts(t *testing.T) {
	const deep = 1<<16 - 50
	nested := func(x api.Expr, round func(api.Expr) api.Expr) api.Expr {
		for range deep {
			x = round(x)
		}
		return x
	}
	call := calls("main", sigOf("i"))
	for what, round := range map[string]func(api.Expr) api.Expr{
		"Op1":    func(x api.Expr) api.Expr { return op1(api.OpNeg, x) },
		"left":   func(x api.Expr) api.Expr { return op2(api.OpAdd, x, i32(1)) },
		"right":  func(x api.Expr) api.Expr { return op2(api.OpAdd, i32(1), x) },
		"OpI":    func(x api.Expr) api.Expr { return opI(api.OpAdd, x, 1) },
		"Cond":   func(x api.Expr) api.Expr { return api.Cond{X: x, Y: i32(1), Z: i32(1)}.Expr() },
		"Comma":  func(x api.Expr) api.Expr { return api.Comma{X: i32(1), Y: x}.Expr() },
		"And":    func(x api.Expr) api.Expr { return api.And{X: i32(1), Y: x}.Expr() },
		"Or":     func(x api.Expr) api.Expr { return api.Or{X: x, Y: i32(1)}.Expr() },
		"Assign": func(x api.Expr) api.Expr { return assign(api.C32, frame(0), x) },
		"Modify": func(x api.Expr) api.Expr {
			return api.Modify{Chunk: api.C32, Addr: global("x"), Y: i32(1), New: x}.Expr()
		},
	} {
		u := api.Unit{Vars: []api.Var{{Name: "x", Size: 4}}}
		u.Funcs = []api.Func{{Name: "main", Sig: sigOf("i"), Frame: 4, Body: []api.Stmt{ret(nested(call, round))}}}
		fuel := 20
		if what == "Op1" {
			fuel = 256 // all the activations that there may be
		}
		if o := core.Run(u, nil, nil, fuel); o.Status != api.Running || o.Steps != fuel {
			t.Errorf("%s: %s", what, shown(o))
		}
		u.Funcs[0].Body = []api.Stmt{ret(nested(i32(0), round))}
		if o := core.Run(u, []int{1, 1, 1}, nil, api.MaxFuel); o.Status != api.Exited || o.Steps != 2 {
			t.Errorf("%s: %s", what, shown(o))
		}
	}
	s := ret(i32(6))
	for n := range deep {
		switch list := []api.Stmt{s}; n % 4 {
		case 0:
			s = api.Block{List: list}.Stmt()
		case 1:
			s = api.If{X: i32(1), Then: list}.Stmt()
		case 2:
			s = api.Loop{After: true, Body: list}.Stmt()
		case 3:
			s = api.Switch{X: i32(1), Items: []api.Item{{Default: true}, {S: s}}}.Stmt()
		}
	}
	if o := core.Run(unitWith(mainOf(s)), nil, nil, api.MaxFuel); o.Status != api.Exited || o.Code != 6 {
		t.Error(shown(o))
	}
}
