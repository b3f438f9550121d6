package check

import (
	"alembic/api"
	"alembic/ctype"
)

// list is the statements that trees become, one behind the other.
func (b *body) list(trees []api.Tree) []api.Stmt {
	var list []api.Stmt
	for _, t := range trees {
		list = append(list, b.statements(t)...)
	}
	return list
}

// statements are what a tree becomes.
func (b *body) statements(t api.Tree) []api.Stmt {
	switch x := t.View().(type) {
	case nil:
		return nil
	case api.TExpr:
		return b.effects(x.X)
	case api.TVar:
		return b.variable(x)
	case api.TBlock:
		return only(b.block(x))
	case api.TIf:
		return only(api.If{X: b.test(x.X), Then: b.statements(x.Then), Else: b.statements(x.Else)})
	case api.TWhile:
		return only(api.Loop{Test: b.test(x.X), Body: b.loop(x.Body)})
	case api.TDo:
		return only(api.Loop{After: true, Body: b.loop(x.Body), Test: b.test(x.X)})
	case api.TFor:
		return only(b.forLoop(x))
	case api.TSwitch:
		return only(b.choice(x))
	case api.TJump:
		return only(b.jump(x))
	case api.TLabel:
		return only(api.Label{Name: x.Name})
	case api.TReturn:
		return only(b.leave(x))
	}
	fail(t.At, api.ErrSyntax)
	return nil
}

// form is a statement's form by its name.
type form interface{ Stmt() api.Stmt }

func only(f form) []api.Stmt { return []api.Stmt{f.Stmt()} }

// effects are what an expression, or none, becomes for what it does.
func (b *body) effects(t api.Tree) []api.Stmt {
	if t.None() {
		return nil
	}
	return only(api.Do{X: effectOf(t, b.expr(t))})
}

// test is a scalar value that is asked whether it is zero; none of none.
func (b *body) test(t api.Tree) api.Expr {
	if t.None() {
		return api.Expr{}
	}
	x := b.value(t)
	require(isScalar(x.t), t.At, api.ErrType)
	return x.x
}

func (b *body) block(t api.TBlock) api.Block {
	b.open()
	defer b.shut()
	return api.Block{List: b.list(t.List)}
}

// loop is what is done again and again.
func (b *body) loop(t api.Tree) []api.Stmt {
	b.loops++
	defer func() { b.loops-- }()
	return b.statements(t)
}

func (b *body) forLoop(t api.TFor) api.Block {
	b.open()
	defer b.shut()
	list := b.statements(t.Init)
	test, step := b.test(t.X), b.effects(t.Step)
	loop := api.Loop{Test: test, Body: b.loop(t.Body), Step: step}
	return api.Block{List: append(list, loop.Stmt())}
}

func (b *body) variable(v api.TVar) []api.Stmt {
	p := b.local(v.At, v.Name, v.Type)
	if v.Init.None() {
		return nil
	}
	_, isList := v.Init.View().(api.TList)
	require(!isList, v.Init.At, api.ErrType)
	require(isScalar(v.Type), v.At, api.ErrType)
	x, ok := assigned(b.value(v.Init), v.Type)
	require(ok, v.At, api.ErrType)
	return only(api.Do{X: api.Assign{Chunk: ctype.Chunk(v.Type), Addr: p.addr, X: x}.Expr()})
}

func (b *body) choice(t api.TSwitch) api.Switch {
	x := b.value(t.X)
	require(isWhole(x.t), t.X.At, api.ErrType)
	x = promoted(x)
	b.open()
	b.switches++
	defer func() {
		b.switches--
		b.shut()
	}()
	s := api.Switch{X: x.x, Long: ctype.Kind(x.t) == api.Long}
	seen := map[branch]struct{}{}
	for _, k := range t.Body {
		if c, ok := k.View().(api.TCase); ok {
			s.Items = append(s.Items, newItem(c, x.t, seen))
			continue
		}
		for _, done := range b.statements(k) {
			s.Items = append(s.Items, api.Item{S: done})
		}
	}
	return s
}

// branch is where a switch may go: to a case of a value, or to the default.
type branch struct {
	isDefault bool
	value     uint64
}

// newItem is the item of a case or default of a switch over a type, which none may be that was seen.
func newItem(c api.TCase, of api.Type, seen map[branch]struct{}) api.Item {
	to := branch{isDefault: c.X.None()}
	if !to.isDefault {
		v, from, ok := constantOf(c.X)
		require(ok && isWhole(from), c.X.At, api.ErrConst)
		v, _ = evaluated(v, from, of) // of whole numbers it has a meaning always
		to.value = v.Bits
	}
	_, twice := seen[to]
	require(!twice, c.At, api.ErrConst)
	seen[to] = struct{}{}
	return api.Item{Case: !to.isDefault, Default: to.isDefault, Value: to.value}
}

func (b *body) jump(j api.TJump) form {
	switch j.Op {
	case "break":
		require(b.loops+b.switches > 0, j.At, api.ErrSyntax)
		return api.Break{}
	case "continue":
		require(b.loops > 0, j.At, api.ErrSyntax)
		return api.Continue{}
	}
	_, ok := b.labels[j.Name]
	require(ok, j.At, api.ErrName)
	return api.Goto{Name: j.Name}
}

func (b *body) leave(t api.TReturn) api.Return {
	if t.X.None() {
		require(isVoid(b.result), t.At, api.ErrType)
		return api.Return{}
	}
	v := b.value(t.X)
	require(!isVoid(b.result), t.At, api.ErrType)
	x, ok := assigned(v, b.result)
	require(ok, t.At, api.ErrType)
	return api.Return{X: x}
}
