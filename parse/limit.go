package parse

import (
	"slices"

	"alembic/api"
	"alembic/ctype"
)

// Depth is how deep a tree nests. It goes level by level, since a long sum nests deeper than calls should.
func Depth(t api.Tree) int {
	depth := 0
	for level := standing(nil, t); len(level) > 0; depth++ {
		var next []*api.Tree
		for _, x := range level {
			next = standing(next, x.Kids...)
		}
		level = next
	}
	return depth
}

// standing puts those trees behind a list that aren't none.
func standing(list []*api.Tree, trees ...api.Tree) []*api.Tree {
	for i := range trees {
		if !trees[i].None() {
			list = append(list, &trees[i])
		}
	}
	return list
}

// typesOf are the types that a tree tells, but not those of the trees in it.
func typesOf(t api.Tree) []api.Type {
	switch x := t.View().(type) {
	case api.TCast:
		return []api.Type{x.To}
	case api.TSizeType:
		return []api.Type{x.Of}
	case api.TVar:
		return []api.Type{x.Type}
	case api.TFunc:
		return []api.Type{x.Type.Type()}
	case api.TRecord:
		var types []api.Type
		for _, f := range x.Fields {
			types = append(types, f.Type)
		}
		return types
	}
	return nil
}

// isGreat tells whether a type is above a limit.
func isGreat(t api.Type) bool {
	return ctype.Depth(t) > api.MaxDepth || hasGreatPart(t)
}

// hasGreatPart tells whether an array's length or a function's parameters in a type are above a limit.
func hasGreatPart(t api.Type) bool {
	switch x := t.View().(type) {
	case api.Pointer:
		return hasGreatPart(x.To)
	case api.Array:
		return x.Len < 1 || x.Len > api.MaxSize || hasGreatPart(x.Of)
	case api.Function:
		return len(x.Params) > api.MaxArgs || hasGreatPart(x.Result) || slices.ContainsFunc(x.Params, hasGreatPart)
	}
	return false
}
