package remake

import (
	"slices"

	"alembic/api"
)

// Graphs is a program of RTL of the same variables and functions from outside, each of whose functions is what function makes of it.
func Graphs(g api.Graphs, function func(f api.Graph) api.Graph) api.Graphs {
	made := api.Graphs{Vars: Vars(g.Vars), Externs: Externs(g.Externs)}
	for _, f := range g.Funcs {
		made.Funcs = append(made.Funcs, function(f))
	}
	return made
}

// Graph is the same function of RTL.
func Graph(f api.Graph) api.Graph {
	made := Bare(f)
	made.Entry = f.Entry
	for _, i := range f.Code {
		made.Code = append(made.Code, Instr(i))
	}
	return made
}

// Bare is the same function of RTL without its code.
func Bare(f api.Graph) api.Graph {
	return api.Graph{Name: f.Name, Sig: Sig(f.Sig), Params: slices.Clone(f.Params), Kinds: slices.Clone(f.Kinds), Frame: f.Frame}
}

// Instr is the same instruction of RTL.
func Instr(i api.Instr) api.Instr {
	i.Args, i.Sig = slices.Clone(i.Args), Sig(i.Sig)
	return i
}
