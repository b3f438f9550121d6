package fold

import (
	"alembic/api"
	"alembic/arrows"
	"alembic/solve"
)

// survey finds what is known ahead of each instruction of a function: it goes along all ways, and lets what was taken to be known fall where another way doesn't know it, till nothing falls any more.
type survey struct {
	f       api.Graph
	t       *table
	narrow  bool    // whether an ICond that is known goes on one way alone
	before  [][]int // of each instruction those that go on to it
	ahead   []int32 // the rows
	come    []bool  // whether it was come to
	waits   []bool  // whether what goes on from it wasn't looked at yet
	waiting int
}

func surveyOf(f api.Graph, t *table, narrow bool) *survey {
	n := len(f.Code)
	next := arrows.Of(f.Code)
	s := &survey{f: f, t: t, narrow: narrow, before: solve.Before(next), ahead: make([]int32, n), come: make([]bool, n), waits: make([]bool, n)}
	order := solve.Order(next, f.Entry)
	s.enter(f.Entry, 0)
	for s.waiting > 0 {
		for _, i := range order {
			if s.waits[i] {
				s.pass(i)
			}
		}
	}
	return s
}

// enter comes to an instruction, where this is known.
func (s *survey) enter(n int, row int32) {
	if n < 0 || n >= len(s.ahead) {
		return
	}
	if s.come[n] && (n == s.f.Entry || len(s.before[n]) > 1) {
		row = s.t.both(s.ahead[n], row)
	}
	if s.come[n] && row == s.ahead[n] {
		return
	}
	s.ahead[n], s.come[n] = row, true
	if !s.waits[n] {
		s.waits[n] = true
		s.waiting++
	}
}

// pass goes on from an instruction.
func (s *survey) pass(n int) {
	s.waits[n] = false
	s.waiting--
	i, p := s.f.Code[n], place{s.t, s.ahead[n]}
	row := p.behind(i)
	if holds, ok := p.test(i); ok && s.narrow {
		s.enter(taken(i, holds), row)
		return
	}
	for _, to := range arrows.Ends(&i) {
		s.enter(*to, row)
	}
}

// taken is what an ICond goes on to.
func taken(i api.Instr, holds bool) int {
	if holds {
		return i.Next
	}
	return i.Else
}
