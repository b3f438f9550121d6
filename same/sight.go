package same

import (
	"alembic/api"
)

// deed is what an IOp or an ILoad (op 0) works out: what stands in it, and the numbers of its Args' values. Two that are the same have the same value.
type deed struct {
	op         int
	n          int64
	v          api.Value
	sym        string
	off, chunk int
	x, y       int
	memory     int // of a load: how often the memory may have changed
}

// sight is what can be told of a row up to an instruction. Each value that a register has had has a number, from 1 on.
type sight struct {
	values  map[int]int  // those that the registers have
	deeds   map[deed]int // those that were worked out
	holders [][]int      // of each value the registers that were given it, the earliest first
	memory  int          // how often the memory may have changed
}

func newSight() *sight {
	return &sight{values: map[int]int{}, deeds: map[deed]int{}, holders: [][]int{nil}}
}

// instr goes behind an instruction, and answers what becomes of it.
func (s *sight) instr(i api.Instr) api.Instr {
	switch i.Kind {
	case api.IOp, api.ILoad:
		return s.result(i)
	case api.IStore:
		s.memory++
	case api.ICall:
		s.memory++
		s.give(i.Dst, s.newValue()) // no Arg is -1, where the result goes nowhere
	}
	return i
}

// result goes behind an instruction that gives its Dst what it works out. A number is as soon made as moved.
func (s *sight) result(i api.Instr) api.Instr {
	if i.Op == api.OpMove {
		s.give(i.Dst, s.arg(i, 0))
		return i
	}
	d := s.deed(i)
	v, done := s.deeds[d]
	if !done {
		v = s.newValue()
		s.deeds[d] = v
	}
	if from, ok := s.holder(v, i.Dst); ok && i.Op != api.OpNum {
		i = api.Instr{Kind: api.IOp, Op: api.OpMove, Args: []int{from}, Dst: i.Dst, Next: i.Next}
	}
	s.give(i.Dst, v)
	return i
}

// deed is what an instruction works out.
func (s *sight) deed(i api.Instr) deed {
	d := deed{op: i.Op, n: i.N, v: i.V, sym: i.Sym, off: i.Off, chunk: i.Chunk, x: s.arg(i, 0), y: s.arg(i, 1)}
	if i.Kind == api.ILoad {
		d.memory = s.memory
	}
	return d
}

// arg is the value of an instruction's n-th Arg, 0 where there is none.
func (s *sight) arg(i api.Instr, n int) int {
	if n >= len(i.Args) {
		return 0
	}
	register := i.Args[n]
	if s.values[register] == 0 {
		s.give(register, s.newValue())
	}
	return s.values[register]
}

func (s *sight) newValue() int {
	s.holders = append(s.holders, nil)
	return len(s.holders) - 1
}

// give lets a register have a value.
func (s *sight) give(register, v int) {
	s.values[register] = v
	s.holders[v] = append(s.holders[v], register)
}

// holder is a register that still has a value: this one, if it does, else the first of those that were given it.
func (s *sight) holder(v, register int) (int, bool) {
	if s.values[register] == v {
		return register, true
	}
	for len(s.holders[v]) > 0 {
		if first := s.holders[v][0]; s.values[first] == v {
			return first, true
		}
		s.holders[v] = s.holders[v][1:]
	}
	return 0, false
}
