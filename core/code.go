package core

import (
	"slices"

	"alembic/api"
	"alembic/mach"
)

// code is what a function of the unit does: a list of steps, one behind the other, but where one of them tells where to go on. It is written when the function is first called.
type code struct {
	f     api.Func
	steps []func(m *machine)
}

// writer writes a function's code. The code of an expression leaves its value on top of the machine's.
type writer struct {
	f       api.Func
	address func(name string) (api.Value, bool)
	steps   []func(m *machine)
	labels  map[string]*spot
	out     func(m *machine) // what Break does
	next    func(m *machine) // what Continue does
	news    int              // how many Modifies there are in whose New this stands
}

// written is the code of a function, in which names have these addresses.
func written(f api.Func, address func(name string) (api.Value, bool)) []func(m *machine) {
	w := &writer{f: f, address: address, labels: map[string]*spot{}, out: wrong, next: wrong}
	w.list(f.Body)
	w.add(number{}.push, leave)
	return w.steps
}

func (w *writer) add(steps ...func(m *machine)) { w.steps = append(w.steps, steps...) }

// step writes that one of the steps that the fuel allows is taken.
func (w *writer) step() { w.add(func(m *machine) { m.step() }) }

func wrong(m *machine) { m.wrong() }

func leave(m *machine) { m.leave() }

func back(m *machine) { m.back() }

// spot is a place in code, which may be gone to from ahead of it.
type spot struct {
	at    int
	known bool
}

// place lets a spot be here; the first time counts.
func (w *writer) place(s *spot) {
	if !s.known {
		*s = spot{at: len(w.steps), known: true}
	}
}

// label is the spot of a label.
func (w *writer) label(name string) *spot {
	s := w.labels[name]
	if s == nil {
		s = &spot{}
		w.labels[name] = s
	}
	return s
}

func (s *spot) jump(m *machine) {
	m.must(s.known)
	m.now.at = s.at
}

// when goes there, if the value on top is true.
func (s *spot) when(m *machine) {
	if m.truth(m.pop()) {
		s.jump(m)
	}
}

// unless goes there, if the value on top isn't true.
func (s *spot) unless(m *machine) {
	if !m.truth(m.pop()) {
		s.jump(m)
	}
}

// ring goes back to a spot, over and over. Where no step was taken since it last did so, nothing will ever change: the run has no end, though no fuel is used up.
type ring struct {
	to    *spot
	in    *activation
	taken int
}

func (r *ring) jump(m *machine) {
	if r.in == m.now && r.taken == m.Taken() {
		panic(ending{status: api.Running})
	}
	r.in, r.taken = m.now, m.Taken()
	r.to.jump(m)
}

// parts are expressions that are worked out in the order that a pick tells. The code of each goes back to where the machine put off to go on.
type parts struct {
	begins []int
	turn   int // where values that stand the other way round are turned
	end    int
}

// parts writes expressions of which a pick tells the order; their values are left in the order of the text.
func (w *writer) parts(list ...api.Expr) {
	p := &parts{}
	w.add(p.begin)
	for _, e := range list {
		p.begins = append(p.begins, len(w.steps))
		w.expr(e)
		w.add(back)
	}
	p.turn = len(w.steps)
	w.add(p.reverse)
	p.end = len(w.steps)
}

func (p *parts) begin(m *machine) {
	if m.pick()%2 == 0 {
		m.ways = append(m.ways, p.end)
		for _, at := range slices.Backward(p.begins) {
			m.ways = append(m.ways, at)
		}
	} else {
		m.ways = append(m.ways, p.turn)
		m.ways = append(m.ways, p.begins...)
	}
	m.back()
}

func (p *parts) reverse(m *machine) {
	slices.Reverse(m.values[len(m.values)-len(p.begins):])
}

// number is a value that is known ahead of the run.
type number struct{ v api.Value }

func (n number) push(m *machine) { m.push(n.v) }

func (w *writer) number(n int32) { w.add(number{mach.IntOf(n)}.push) }

func drop(m *machine) { m.pop() }
