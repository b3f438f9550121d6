package fold

import (
	"alembic/api"
)

// fact is what is known of a register: the number that it holds, or the name and how many bytes behind what that stands for the address is that it holds. The zero fact is nothing.
type fact struct {
	v   api.Value
	sym string
	off int
}

// number is the fact of a number, nothing of any other value.
func number(v api.Value) fact {
	switch v.Kind {
	case api.Int, api.Long, api.Double:
		return fact{v: v}
	}
	return fact{}
}

func (x fact) isNumber() bool { return x.v.Kind != api.Undef }

func (x fact) isAddress() bool { return x.sym != "" }

// behind is the address so many bytes behind one. Of those so far away that no variable's bytes could be there nothing is known.
func (x fact) behind(n int64) fact {
	off := x.off + int(n)
	if off != int(int32(off)) {
		return fact{}
	}
	return fact{sym: x.sym, off: off}
}
