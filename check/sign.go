package check

import (
	"alembic/api"
	"alembic/ctype"
)

// signs are the signs between two parts that stand for an operation: that of Int with a sign, without one, and that of Double (0: none).
var signs = [...]struct {
	sign                     string
	signed, unsigned, double int
}{
	{"*", api.OpMul, api.OpMul, api.OpMulD},
	{"/", api.OpDiv, api.OpDivU, api.OpDivD},
	{"%", api.OpMod, api.OpModU, 0},
	{"+", api.OpAdd, api.OpAdd, api.OpAddD},
	{"-", api.OpSub, api.OpSub, api.OpSubD},
	{"<<", api.OpShl, api.OpShl, 0},
	{">>", api.OpShr, api.OpShrU, 0},
	{"&", api.OpAnd, api.OpAnd, 0},
	{"^", api.OpXor, api.OpXor, 0},
	{"|", api.OpOr, api.OpOr, 0},
	{"==", api.OpEq, api.OpEq, api.OpEqD},
	{"!=", api.OpNe, api.OpNe, api.OpNeD},
	{"<", api.OpLt, api.OpLtU, api.OpLtD},
	{"<=", api.OpLe, api.OpLeU, api.OpLeD},
	{">", api.OpGt, api.OpGtU, api.OpGtD},
	{">=", api.OpGe, api.OpGeU, api.OpGeD},
}

// operation is the operation of two of a sign, for a promoted type. Addresses are reckoned with as long numbers without a sign are.
func operation(sign string, t api.Type) int {
	for _, s := range signs {
		if s.sign != sign {
			continue
		}
		switch x := t.View().(type) {
		case api.Float:
			return s.double
		case api.Number:
			if !x.Unsigned {
				return widened(s.signed, t)
			}
		}
		return widened(s.unsigned, t)
	}
	return 0
}

// operation1 is the operation of a minus or a tilde, for a promoted type.
func operation1(sign string, t api.Type) int {
	switch {
	case sign == "~":
		return widened(api.OpNot, t)
	case isWhole(t):
		return widened(api.OpNeg, t)
	}
	return api.OpNegD
}

// widened is an operation of Int, as it is for a type of whole numbers or addresses.
func widened(op int, t api.Type) int {
	if ctype.Kind(t) == api.Long {
		return op + api.OfLong
	}
	return op
}

func isShift(sign string) bool { return sign == "<<" || sign == ">>" }

func isCompare(sign string) bool { return isEqual(sign) || isOrder(sign) }

func isEqual(sign string) bool { return sign == "==" || sign == "!=" }

func isOrder(sign string) bool {
	return sign == "<" || sign == "<=" || sign == ">" || sign == ">="
}

// wantsWhole tells whether a sign stands for an operation of whole numbers alone.
func wantsWhole(sign string) bool {
	return isShift(sign) || sign == "%" || sign == "&" || sign == "^" || sign == "|"
}
