package graph

import (
	"alembic/api"
	"alembic/mach"
	"alembic/solve"
	"alembic/walk"
)

// kind is the kind of an expression's value, 0 where the expression doesn't tell: of a temporary, and of what has no value of a register's kind.
func kind(e api.Expr) (k int) {
	switch x := e.View().(type) {
	case api.Num:
		k = x.V.Kind
	case api.Global, api.Frame:
		k = api.Long
	case api.Load:
		k = mach.Kind(x.Chunk)
	case api.Op1:
		_, _, k = mach.Shape(x.Op)
	case api.Op2:
		_, _, k = mach.Shape(x.Op)
	case api.OpI:
		_, _, k = mach.Shape(x.Op)
	}
	if !isKind(k) {
		return 0
	}
	return k
}

// isKind tells whether a register may be of a kind.
func isKind(k int) bool { return k == api.Int || k == api.Long || k == api.Double }

// settings are what the temporaries of a function are set to. They are numbered as they come, for there may be more than are ever named.
type settings struct {
	numbers map[int]int
	temps   []int   // by these numbers
	kinds   [][]int // of each those of the values that it is set to
	copied  [][]int // and the temporaries
}

// settingsOf are a function's.
func settingsOf(f api.Func) *settings {
	s := &settings{numbers: map[int]int{}}
	for i, p := range f.Params {
		if i < len(f.Sig.Params) && p < 0 {
			s.value(-1-p, f.Sig.Params[i])
		}
	}
	for x := range walk.All(f.Body) {
		switch x := x.View().(type) {
		case api.Set:
			s.set(x)
		case api.Invoke:
			if x.N >= 0 {
				s.value(x.N, x.Sig.Result)
			}
		}
	}
	return s
}

// all are of each temporary, by its number, the kinds of values that it may ever have.
func (s *settings) all() [][]int { return solve.Backward(s.copied, s.kinds, nil) }

func (s *settings) number(temp int) int {
	n, ok := s.numbers[temp]
	if !ok {
		n = len(s.temps)
		s.numbers[temp] = n
		s.temps = append(s.temps, temp)
		s.kinds, s.copied = append(s.kinds, nil), append(s.copied, nil)
	}
	return n
}

func (s *settings) value(temp, kind int) {
	if n := s.number(temp); isKind(kind) {
		s.kinds[n] = append(s.kinds[n], kind)
	}
}

func (s *settings) set(x api.Set) {
	if from, ok := x.X.View().(api.Temp); ok {
		n, m := s.number(x.N), s.number(from.N)
		s.copied[n] = append(s.copied[n], m)
		return
	}
	s.value(x.N, kind(x.X))
}
