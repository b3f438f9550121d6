package choose

import (
	"strconv"

	"alembic/api"
)

// labels are those of a function, and how many new ones were asked for.
type labels struct {
	taken map[string]struct{}
	asked int
}

func labelsOf(body []api.Stmt) labels {
	l := labels{taken: map[string]struct{}{}}
	l.list(body)
	return l
}

func (l *labels) list(list []api.Stmt) {
	for _, s := range list {
		l.stmt(s)
	}
}

func (l *labels) stmt(s api.Stmt) {
	switch x := s.View().(type) {
	case api.Label:
		l.taken[x.Name] = struct{}{}
	case api.If:
		l.list(x.Then)
		l.list(x.Else)
	case api.Loop:
		l.list(x.Body)
		l.list(x.Step)
	case api.Switch:
		for _, i := range x.Items {
			l.stmt(i.S)
		}
	case api.Block:
		l.list(x.List)
	}
}

// next is a label that isn't in the function yet.
func (l *labels) next() string {
	for {
		l.asked++
		name := "." + strconv.Itoa(l.asked)
		if _, ok := l.taken[name]; !ok {
			return name
		}
	}
}
