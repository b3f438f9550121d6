package choose

import (
	"cmp"
	"slices"

	"alembic/api"
	"alembic/mach"
)

// fork is where a switch goes, by a value.
type fork struct {
	asked api.Expr
	long  bool
	cases []branch
	other string // the default's label; empty, if there is none
}

// branch is a case: its value, by its sign, and its label.
type branch struct {
	value int64
	label string
}

// choice is what becomes of a switch: tests that go to labels, its items with these labels, and behind them the label where a Break goes.
func (c *chooser) choice(x api.Switch) api.Stmt {
	f := &fork{long: x.Long}
	list := c.hold(f, c.Expr(x.X))
	out := c.labels.next()
	items := within(c, out, func() []api.Stmt { return c.items(f, x.Items) })
	list = append(list, c.tests(f, f.sorted()), goTo(cmp.Or(f.other, out)))
	list = append(list, items...)
	return api.Block{List: append(list, api.Label{Name: out}.Stmt())}.Stmt()
}

// hold keeps what is asked where each test can ask for it, and tells what does so.
func (c *chooser) hold(f *fork, asked api.Expr) []api.Stmt {
	if t, ok := asked.View().(api.Temp); ok {
		f.asked = t.Expr()
		return nil
	}
	t := api.Temp{N: c.temps}
	c.temps++
	f.asked = t.Expr()
	return []api.Stmt{api.Set{N: t.N, X: asked}.Stmt()}
}

// items are a switch's statements, with a label for each case and for the default.
func (c *chooser) items(f *fork, items []api.Item) []api.Stmt {
	var list []api.Stmt
	for _, i := range items {
		if !i.S.None() {
			list = append(list, c.Stmt(i.S))
		}
		if i.Case || i.Default {
			name := c.labels.next()
			f.mark(i, name)
			list = append(list, api.Label{Name: name}.Stmt())
		}
	}
	return list
}

// mark lets an item be gone to by a label. A Value with bits beyond those of what is asked is none that this can be.
func (f *fork) mark(i api.Item, name string) {
	if i.Default && f.other == "" {
		f.other = name
	}
	if v := f.number(int64(i.Value)); i.Case && v.Bits == i.Value {
		f.cases = append(f.cases, branch{number(v), name})
	}
}

// number is a number of the kind of what is asked.
func (f *fork) number(n int64) api.Value {
	if f.long {
		return mach.LongOf(n)
	}
	return mach.IntOf(int32(n))
}

// sorted is the cases by their values; of those of one value the first counts.
func (f *fork) sorted() []branch {
	slices.SortStableFunc(f.cases, func(a, b branch) int { return cmp.Compare(a.value, b.value) })
	return slices.CompactFunc(f.cases, func(a, b branch) bool { return a.value == b.value })
}

// tests is a tree of tests that goes to the label of the case that has the value, or, if none has it, ends.
func (c *chooser) tests(f *fork, cases []branch) api.Stmt {
	half := len(cases) / 2
	switch len(cases) {
	case 0:
		// Nothing hangs on the number, but what is none goes wrong.
		return api.If{X: c.is(f, 0)}.Stmt()
	case 1:
		return api.If{X: c.is(f, cases[0].value), Then: []api.Stmt{goTo(cases[0].label)}}.Stmt()
	}
	less, rest := c.tests(f, cases[:half]), c.tests(f, cases[half:])
	return api.If{X: c.test(f, api.OpLt, cases[half].value), Then: []api.Stmt{less}, Else: []api.Stmt{rest}}.Stmt()
}

// is tests whether the value is a number. An address can be held against 0, but asked by a switch it has no meaning: the test for 0 is one that an address has none in, either.
func (c *chooser) is(f *fork, n int64) api.Expr {
	if n == 0 {
		return c.test(f, api.OpLtU, 1)
	}
	return c.test(f, api.OpEq, n)
}

func (c *chooser) test(f *fork, op int, n int64) api.Expr {
	if f.long {
		op += api.OfLong
	}
	return c.operation(api.Op2{Op: op, X: f.asked, Y: api.Num{V: f.number(n)}.Expr()})
}

func goTo(name string) api.Stmt { return api.Goto{Name: name}.Stmt() }
