package choose

import (
	"strconv"

	"alembic/api"
	"alembic/walk"
)

// labels are those of a function, and how many new ones were asked for.
type labels struct {
	taken map[string]struct{}
	asked int
}

func labelsOf(body []api.Stmt) labels {
	l := labels{taken: map[string]struct{}{}}
	for s := range walk.All(body) {
		if x, ok := s.View().(api.Label); ok {
			l.taken[x.Name] = struct{}{}
		}
	}
	return l
}

// next is a label that isn't in the function yet.
func (l *labels) next() string {
	for {
		l.asked++
		name := "." + strconv.Itoa(l.asked)
		if _, ok := l.taken[name]; !ok {
			return name
		}
	}
}
