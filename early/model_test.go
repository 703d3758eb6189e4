package early_test

import (
	"slices"
	"testing"

	"boomerang/api"
	"boomerang/early"
)

// Kinds of what is wrong.
const (
	again = iota
	twice
	nobodys
	constant
	jump
	yields
	returns
	kinds
)

// fault is something that is wrong.
type fault struct {
	kind int
	at   int
}

// inside is what a second reading stands in.
type inside struct {
	names     []map[string]bool // of each scope around, the innermost one first; true: an NConst made it first
	function  bool
	generator bool
	loop      bool
}

// reading goes through a tree from its last node down, and holds each node against
// 11.1 by the names around it; it asks nothing of package scope.
type reading struct {
	nodes  []api.Node
	faults []fault
}

func (r *reading) wrong(kind, at int) {
	r.faults = append(r.faults, fault{kind, at})
}

// scope tells the names of a node's scope: those ahead, and those of its statements.
func (r *reading) scope(n api.Node, ahead ...string) map[string]bool {
	names := map[string]bool{}
	for _, name := range ahead {
		names[name] = false
	}
	for _, kid := range n.Kids {
		x := r.nodes[kid]
		name := x.Text
		switch x.Kind {
		case api.NDef:
			name = r.nodes[x.Kids[0]].Text
		case api.NLet, api.NConst:
		default:
			continue
		}
		if _, has := names[name]; has {
			r.wrong(again, x.At)
			continue
		}
		names[name] = x.Kind == api.NConst
	}
	return names
}

// walk reads a node; caught are the names that it has if it is an NTry's second
// block, which is a scope even where it makes none.
func (r *reading) walk(node int, in inside, caught ...string) {
	n := r.nodes[node]
	switch n.Kind {
	case api.NFun:
		r.parameters(n)
		in.function, in.generator, in.loop = true, n.Num == 1, false
		in.names = append([]map[string]bool{r.scope(n, n.Names...)}, in.names...)
	case api.NAll, api.NBlock:
		in.names = append([]map[string]bool{r.scope(n, caught...)}, in.names...)
	case api.NWhile:
		r.walk(n.Kids[0], in)
		in.loop = true
		r.walk(n.Kids[1], in)
		return
	case api.NTry:
		r.walk(n.Kids[0], in)
		r.walk(n.Kids[1], in, n.Text)
		return
	case api.NSet:
		r.set(n, in)
	}
	r.jumps(n, in)
	for _, kid := range n.Kids {
		r.walk(kid, in)
	}
}

func (r *reading) parameters(n api.Node) {
	for i, name := range n.Names {
		if slices.Contains(n.Names[:i], name) {
			r.wrong(twice, n.At)
		}
	}
}

func (r *reading) set(n api.Node, in inside) {
	target := r.nodes[n.Kids[0]]
	if target.Kind != api.NName {
		return
	}
	for _, names := range in.names {
		if isConst, has := names[target.Text]; has {
			if isConst {
				r.wrong(constant, n.At)
			}
			return
		}
	}
	r.wrong(nobodys, n.At)
}

func (r *reading) jumps(n api.Node, in inside) {
	switch n.Kind {
	case api.NBreak, api.NNext:
		if !in.loop {
			r.wrong(jump, n.At)
		}
	case api.NYield:
		if !in.generator {
			r.wrong(yields, n.At)
		}
	case api.NReturn:
		if !in.function {
			r.wrong(returns, n.At)
		}
	}
}

// faultsOf tells what is wrong with a program, the least At first.
func faultsOf(l []api.Node) []fault {
	r := &reading{nodes: l}
	r.walk(len(l)-1, inside{})
	slices.SortStableFunc(r.faults, func(a, b fault) int { return a.at - b.at })
	return r.faults
}

// wantModel holds Check beside the second reading, and tells what that found.
func wantModel(t *testing.T, src string) []fault {
	t.Helper()
	l := parsed(t, src)
	faults := faultsOf(l)
	at, ok := early.Check(l)
	wantOK, wantAt := len(faults) == 0, 0
	if !wantOK {
		wantAt = faults[0].at
	}
	if ok != wantOK || at != wantAt {
		t.Errorf("11.1: Check of %q: %d, %v, not %d, %v", src, at, ok, wantAt, wantOK)
	}
	return faults
}
