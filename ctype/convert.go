package ctype

import (
	"alembic/api"
)

// Promote is the type in which a small number is reckoned with.
func Promote(t api.Type) api.Type {
	if n, ok := t.View().(api.Number); ok && (n.Size == 1 || n.Size == 2) {
		return api.Number{Size: 4}.Type()
	}
	return copied(t)
}

// Common is the type in which an operation of two is done.
func Common(a, b api.Type) (api.Type, bool) {
	if !isArithmetic(a) || !isArithmetic(b) {
		return api.Type{}, false
	}
	x, xWhole := Promote(a).View().(api.Number)
	y, yWhole := Promote(b).View().(api.Number)
	if !xWhole || !yWhole {
		return api.Float{}.Type(), true
	}
	if y.Size > x.Size || y.Size == x.Size && y.Unsigned {
		return y.Type(), true
	}
	return x.Type(), true
}

// Ops are the operations that turn a scalar into another one.
func Ops(from, to api.Type) ([]int, bool) {
	if isPointer(from) && isPointer(to) {
		return nil, true
	}
	if !isArithmetic(from) || !isArithmetic(to) {
		return nil, false
	}
	x, fromWhole := from.View().(api.Number)
	y, toWhole := to.View().(api.Number)
	switch {
	case fromWhole && toWhole:
		return wholeOps(x, y), true
	case fromWhole:
		return doubleOps(x), true
	case toWhole:
		return cutOps(y), true
	}
	return nil, true
}

// wholeOps turn a number into one of another size or sign.
func wholeOps(from, to api.Number) []int {
	if to.Size == 8 {
		if from.Size == 8 {
			return nil
		}
		return []int{bySign(from, api.OpLongS, api.OpLongU)}
	}
	var ops []int
	if from.Size == 8 {
		ops = append(ops, api.OpInt)
	}
	if from == to {
		return ops
	}
	return append(ops, smallOps(to)...)
}

// smallOps turn any Int into a number of 1 or 2 bytes; one of 4 is one already.
func smallOps(to api.Number) []int {
	switch to.Size {
	case 1:
		return []int{bySign(to, api.OpS8, api.OpU8)}
	case 2:
		return []int{bySign(to, api.OpS16, api.OpU16)}
	}
	return nil
}

// doubleOps turn a number into a double. Of 1 and 2 bytes any number is an Int of its own sign.
func doubleOps(from api.Number) []int {
	switch from.Size {
	case 8:
		return []int{bySign(from, api.OpDblL, api.OpDblUL)}
	case 4:
		return []int{bySign(from, api.OpDblS, api.OpDblU)}
	}
	return []int{api.OpDblS}
}

// cutOps turn a double into a number.
func cutOps(to api.Number) []int {
	switch to.Size {
	case 8:
		return []int{bySign(to, api.OpLongD, api.OpUlongD)}
	case 4:
		return []int{bySign(to, api.OpIntD, api.OpUintD)}
	}
	return append([]int{api.OpIntD}, smallOps(to)...)
}
