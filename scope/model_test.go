package scope_test

import (
	"slices"
	"testing"

	"boomerang/api"
	"boomerang/scope"
)

// place is where a name has its value, in a scope that is told apart from all
// others by the node that has it.
type place struct {
	node int
	slot int
}

// around are the scopes around what a second reading stands in, the innermost one
// last.
type around struct {
	nodes []int
	names [][]string
}

func (a around) with(node int, names []string) around {
	return around{append(slices.Clone(a.nodes), node), append(slices.Clone(a.names), names)}
}

// reading goes through a tree from its last node down, and holds what 10.1 and 10.2
// say of each node by the scopes around it.
type reading struct {
	nodes  []api.Node
	slots  []int
	spots  []api.Spot
	places []place // as the spots, but with node -1 of none
}

func read(l []api.Node) *reading {
	r := &reading{nodes: l}
	for range l {
		r.slots = append(r.slots, -1)
		r.spots = append(r.spots, api.Spot{Depth: -1})
		r.places = append(r.places, place{-1, 0})
	}
	r.walk(len(l)-1, around{}, "")
	return r
}

// walk reads a node; caught is the name of an NTry whose second block it is.
func (r *reading) walk(at int, a around, caught string) {
	n := r.nodes[at]
	names := slices.Clone(n.Names)
	if caught != "" {
		names = append(names, caught)
	}
	var made []string
	for _, kid := range n.Kids {
		if x := r.nodes[kid]; x.Kind == api.NLet || x.Kind == api.NConst {
			made = append(made, x.Text)
		} else if x.Kind == api.NDef {
			made = append(made, r.nodes[x.Kids[0]].Text)
		}
	}
	isScope := n.Kind == api.NAll || n.Kind == api.NFun || n.Kind == api.NBlock && (caught != "" || made != nil)
	if isScope {
		names = append(names, made...)
		r.slots[at] = len(names)
	}
	switch n.Kind {
	case api.NName, api.NLet, api.NConst:
		r.name(at, n.Text, a)
	case api.NDef:
		r.name(at, r.nodes[n.Kids[0]].Text, a)
	}
	if isScope {
		a = a.with(at, names)
	}
	for i, kid := range n.Kids {
		if n.Kind == api.NTry && i == 1 {
			r.walk(kid, a, n.Text)
		} else {
			r.walk(kid, a, "")
		}
	}
}

func (r *reading) name(at int, name string, a around) {
	for i := len(a.names) - 1; i >= 0; i-- {
		if slot := slices.Index(a.names[i], name); slot >= 0 {
			r.spots[at] = api.Spot{Depth: len(a.names) - 1 - i, Slot: slot}
			r.places[at] = place{a.nodes[i], slot}
			return
		}
	}
}

// wantModel holds Slots and Spots beside the second reading.
func wantModel(t *testing.T, src string) *reading {
	t.Helper()
	l := parsed(t, src)
	r := read(l)
	if slots := scope.Slots(l); !slices.Equal(slots, r.slots) {
		t.Errorf("10.1: Slots of %q: %v, not %v", src, slots, r.slots)
	}
	if spots := scope.Spots(l); !slices.Equal(spots, r.spots) {
		t.Errorf("10.2: Spots of %q: %v, not %v", src, spots, r.spots)
	}
	return r
}

// wantRenamed holds that a name has one spot, wherever it is used: if each name is
// called after its place, those of two places never alike, all have their spots yet.
func wantRenamed(t *testing.T, src string, r *reading) {
	t.Helper()
	l := renamed(r)
	if spots := scope.Spots(l); !slices.Equal(spots, r.spots) {
		t.Errorf("10.3: Spots of %q, if each name is called after its place: %v, not %v", src, spots, r.spots)
	}
	if slots := scope.Slots(l); !slices.Equal(slots, r.slots) {
		t.Errorf("10.3: Slots of %q, if each name is called after its place: %v, not %v", src, slots, r.slots)
	}
}
