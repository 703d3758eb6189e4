package early

import (
	"boomerang/api"
	"boomerang/scope"
)

// none is the number of a node that there is not.
const none = -1

// around are the innermost nodes that lie around one, or none.
type around struct {
	scope    int // one that has a scope
	function int
	loop     int // an NWhile within the same function
}

// home is where a name has its value: the node that has the scope, and its place
// there.
type home struct {
	scope int
	slot  int
}

// tree is nodes, with what the rules ask of each.
type tree struct {
	nodes  []api.Node
	spots  []api.Spot
	around []around
	names  []int             // of each node that has a scope how many names, as far as they are counted
	places []int             // of each node that makes a name the place that is its own
	consts map[home]struct{} // the NConsts' own places
}

// found goes from the last node to the first to find what lies around each: it
// stands behind its kids. The names that a scope has are counted from the first on.
func found(l []api.Node) *tree {
	t := &tree{
		nodes:  l,
		spots:  scope.Spots(l),
		around: make([]around, len(l)),
		names:  make([]int, len(l)),
		places: make([]int, len(l)),
		consts: map[home]struct{}{},
	}
	for node := range l {
		t.around[node] = around{none, none, none}
	}
	slots := scope.Slots(l)
	for node := len(l) - 1; node >= 0; node-- {
		t.enter(node, slots[node] >= 0)
	}
	for node := range l {
		t.count(node)
	}
	return t
}

// enter says to a node's kids what lies around them, and counts the names that stand
// ahead of those of statements.
func (t *tree) enter(node int, hasScope bool) {
	n, inner := t.nodes[node], t.around[node]
	if hasScope {
		inner.scope = node
	}
	switch n.Kind {
	case api.NFun:
		inner.function, inner.loop = node, none
		t.names[node] = len(n.Names)
	case api.NWhile:
		inner.loop = node
	case api.NTry:
		if caught, ok := t.kid(node, 1); ok {
			t.names[caught] = 1
		}
	}
	for place := range n.Kids {
		if kid, ok := t.kid(node, place); ok {
			t.around[kid] = inner
		}
	}
}

// kid tells one of a node's kids; nodes that Parse cannot tell could lead in rings,
// or to none.
func (t *tree) kid(node, place int) (kid int, ok bool) {
	kids := t.nodes[node].Kids
	if place >= len(kids) || kids[place] < 0 || kids[place] >= node {
		return 0, false
	}
	return kids[place], true
}

// count gives the name that a node makes the next place of its scope. An NConst that
// makes a name again has a place, too, but no name is at home there.
func (t *tree) count(node int) {
	kind, in := t.nodes[node].Kind, t.around[node].scope
	if !makes(kind) || in == none {
		return
	}
	t.places[node] = t.names[in]
	t.names[in]++
	if kind == api.NConst {
		t.consts[home{in, t.places[node]}] = struct{}{}
	}
}

// makes tells whether a node of a kind makes a name.
func makes(kind int) bool {
	return kind == api.NLet || kind == api.NConst || kind == api.NDef
}

// home tells where the name of an NName has its value; of one that no scope has: none.
func (t *tree) home(name int) home {
	spot, in := t.spots[name], t.around[name].scope
	if spot.Depth < 0 {
		return home{scope: none}
	}
	for left := spot.Depth; left > 0 && in != none; left-- {
		in = t.around[in].scope
	}
	return home{in, spot.Slot}
}
