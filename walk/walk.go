// Package walk goes through the statements of a function's body. Layers share it that ask what is in one.
package walk

import (
	"iter"

	"alembic/api"
)

// All is statements and those within them, each ahead of what is in it.
func All(list []api.Stmt) iter.Seq[api.Stmt] {
	return func(yield func(api.Stmt) bool) { each(list, yield) }
}

// each yields statements and those within them, till that is enough: false.
func each(list []api.Stmt, yield func(api.Stmt) bool) bool {
	for _, s := range list {
		if !yield(s) {
			return false
		}
		for _, part := range parts(s) {
			if !each(part, yield) {
				return false
			}
		}
	}
	return true
}

// parts are the lists of statements that a statement has.
func parts(s api.Stmt) [][]api.Stmt {
	switch x := s.View().(type) {
	case api.If:
		return [][]api.Stmt{x.Then, x.Else}
	case api.Loop:
		return [][]api.Stmt{x.Body, x.Step}
	case api.Block:
		return [][]api.Stmt{x.List}
	case api.Switch:
		var list []api.Stmt
		for _, i := range x.Items {
			list = append(list, i.S)
		}
		return [][]api.Stmt{list}
	}
	return nil
}
