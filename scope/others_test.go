package scope_test

import (
	"reflect"
	"slices"
	"strings"
	"testing"

	"boomerang/api"
	"boomerang/scope"
)

// both goes through both calls, and holds that each tells as many as there are
// nodes, also of those that Parse cannot tell.
func both(t *testing.T, l []api.Node) {
	t.Helper()
	if slots, spots := scope.Slots(l), scope.Spots(l); len(slots) != len(l) || len(spots) != len(l) {
		t.Errorf("R1: of %d nodes: %d slots, %d spots", len(l), len(slots), len(spots))
	}
}

func TestNoNodes(t *testing.T) {
	both(t, nil)
	both(t, []api.Node{})
}

// Nodes that Parse cannot tell: each call ends, and tells something.
func TestNodesThatAreNoPrograms(t *testing.T) {
	for kind := -1; kind <= api.NAll+1; kind++ {
		for _, kids := range [][]int{
			nil, {0}, {1}, {2}, {3}, {-1}, {1 << 62}, {-1 << 63}, {0, 0}, {1, 1}, {0, 1}, {1, 0}, {2, 2}, {0, 1, 2, 3}, {9, 1, -5},
		} {
			odd := api.Node{Kind: kind, Text: "a", Names: []string{"a", "b", "a"}, Kids: kids}
			for _, around := range []int{api.NBlock, api.NFun, api.NDef, api.NTry, api.NAll, api.NIf} {
				name := api.Node{Kind: api.NName, Text: "a"}
				outer := api.Node{Kind: around, Text: "b", Kids: []int{0, 1}}
				both(t, []api.Node{odd})
				both(t, []api.Node{name, odd, outer})
				both(t, []api.Node{outer, odd, name})
				both(t, []api.Node{odd, outer, odd, outer})
				both(t, []api.Node{name, odd, outer, {Kind: api.NAll, Kids: []int{2, 1, 0}}})
				both(t, []api.Node{name, odd, outer, {Kind: api.NTry, Text: "a", Kids: []int{2, 1}}})
			}
		}
	}
}

// Rings, kids that many have, and what lies deeper than any program.
func TestNodesWithoutEnd(t *testing.T) {
	shared := []api.Node{{Kind: api.NName, Text: "a"}}
	deep := []api.Node{{Kind: api.NLet, Text: "a"}}
	ring := []api.Node{}
	for at := range 3000 {
		shared = append(shared, api.Node{Kind: api.NFun, Names: []string{"b"}, Kids: []int{at, at, at}})
		deep = append(deep, api.Node{Kind: api.NBlock, Kids: []int{at}})
		ring = append(ring, api.Node{Kind: api.NFun, Kids: []int{(at + 1) % 3000}})
	}
	both(t, shared)
	both(t, deep)
	both(t, ring)
}

func TestWhatIsHandedInStays(t *testing.T) {
	const src = "let a = 1; function f(a, b, a) { try { a } catch (b) { const c = b } }"
	l, again := parsed(t, src), parsed(t, src)
	scope.Slots(l)
	scope.Spots(l)
	if !reflect.DeepEqual(l, again) {
		t.Error("R3: the nodes were changed")
	}
	// Spare room behind the names and the kids is not written on, either.
	roomy := slices.Clone(l)
	for at := range roomy {
		roomy[at].Names = append(make([]string, 0, 8), l[at].Names...)
		roomy[at].Kids = append(make([]int, 0, 8), l[at].Kids...)
	}
	scope.Slots(roomy)
	scope.Spots(roomy)
	for at, n := range roomy {
		if more := n.Names[len(n.Names):cap(n.Names)]; strings.Join(more, "") != "" {
			t.Errorf("R3: behind the names of node %d: %q", at, more)
		}
		if more := n.Kids[len(n.Kids):cap(n.Kids)]; slices.Max(append(more, 0)) != 0 {
			t.Errorf("R3: behind the kids of node %d: %v", at, more)
		}
	}
}

func TestWhatIsToldIsNew(t *testing.T) {
	l := parsed(t, "let a = 1; { let a = b; a }")
	slots, spots := scope.Slots(l), scope.Spots(l)
	wereSlots, wereSpots := slices.Clone(slots), slices.Clone(spots)
	for at := range l {
		slots[at], spots[at] = 77, api.Spot{Depth: 77, Slot: 77}
	}
	if is := scope.Slots(l); !slices.Equal(is, wereSlots) {
		t.Errorf("R3: Slots after others were written on: %v", is)
	}
	if is := scope.Spots(l); !slices.Equal(is, wereSpots) {
		t.Errorf("R3: Spots after others were written on: %v", is)
	}
}
