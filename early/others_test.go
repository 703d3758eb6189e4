package early_test

import (
	"reflect"
	"slices"
	"strings"
	"testing"

	"boomerang/api"
	"boomerang/early"
)

// told holds that a call ends, and that it tells the same again, also of nodes that
// Parse cannot tell.
func told(t *testing.T, l []api.Node) {
	t.Helper()
	at, ok := early.Check(l)
	if again, okAgain := early.Check(l); again != at || okAgain != ok {
		t.Errorf("R5: of the same nodes: %d, %v, then %d, %v", at, ok, again, okAgain)
	}
	if ok && at != 0 {
		t.Errorf("11.1: nothing is wrong, at %d", at)
	}
}

func TestNoNodes(t *testing.T) {
	told(t, nil)
	told(t, []api.Node{})
}

// Nodes that Parse cannot tell: each call ends, and tells something.
func TestNodesThatAreNoPrograms(t *testing.T) {
	for kind := -1; kind <= api.NAll+1; kind++ {
		for _, kids := range [][]int{
			nil, {0}, {1}, {2}, {3}, {-1}, {1 << 62}, {-1 << 63}, {0, 0}, {1, 1}, {0, 1}, {1, 0}, {2, 2}, {0, 1, 2, 3}, {9, 1, -5},
		} {
			odd := api.Node{Kind: kind, Text: "a", Names: []string{"a", "b", "a"}, Kids: kids, At: -3}
			for around := api.NObj; around <= api.NAll; around++ {
				name := api.Node{Kind: api.NName, Text: "a"}
				outer := api.Node{Kind: around, Text: "b", Kids: []int{0, 1}}
				all := api.Node{Kind: api.NAll, Kids: []int{2, 1, 0}}
				told(t, []api.Node{odd})
				told(t, []api.Node{name, odd, outer})
				told(t, []api.Node{outer, odd, name})
				told(t, []api.Node{odd, outer, odd, outer})
				told(t, []api.Node{name, odd, outer, all})
				told(t, []api.Node{name, odd, outer, {Kind: api.NTry, Text: "a", Kids: []int{2, 1}}, all})
			}
		}
	}
}

// Rings, kids that many have, and what lies deeper than any program.
func TestNodesWithoutEnd(t *testing.T) {
	shared := []api.Node{{Kind: api.NName, Text: "a"}}
	deep := []api.Node{{Kind: api.NLet, Text: "a"}}
	sets := []api.Node{{Kind: api.NName, Text: "a"}, {Kind: api.NSet, Kids: []int{0, 0}}}
	ring := []api.Node{}
	for at := range 3000 {
		shared = append(shared, api.Node{Kind: api.NFun, Names: []string{"b"}, Kids: []int{at, at, at}})
		deep = append(deep, api.Node{Kind: api.NBlock, Kids: []int{at}})
		sets = append(sets, api.Node{Kind: api.NFun, Names: []string{"b"}, Kids: []int{at + 1}})
		ring = append(ring, api.Node{Kind: api.NFun, Kids: []int{(at + 1) % 3000}})
	}
	told(t, shared)
	told(t, deep)
	told(t, sets)
	told(t, append(sets, api.Node{Kind: api.NFun, Names: []string{"a"}, Kids: []int{3001}}))
	told(t, ring)
}

// A block that two nodes have, one of which stands in no scope: what lies around it
// is told otherwise by each.
func TestBlocksThatTwoHave(t *testing.T) {
	told(t, []api.Node{
		{Kind: api.NName, Text: "a"},
		{Kind: api.NNum},
		{Kind: api.NSet, Kids: []int{0, 1}},
		{Kind: api.NBlock, Kids: []int{2}},
		{Kind: api.NBlock, Kids: []int{3}},
		{Kind: api.NBlock},
		{Kind: api.NTry, Text: "e", Kids: []int{5, 3}},
		{Kind: api.NFun, Kids: []int{6}},
		{Kind: api.NConst, Text: "a", Kids: []int{1}},
		{Kind: api.NAll, Kids: []int{7, 8}},
	})
}

func TestWhatIsHandedInStays(t *testing.T) {
	const src = "const a = 1; function f(c, a, b, a) { try { a = 2 } catch (b) { const c = b } } break"
	l, again := parsed(t, src), parsed(t, src)
	early.Check(l)
	if !reflect.DeepEqual(l, again) {
		t.Error("R3: the nodes were changed")
	}
	// Spare room behind the names and the kids is not written on, either.
	roomy := slices.Clone(l)
	for at := range roomy {
		roomy[at].Names = append(make([]string, 0, 8), l[at].Names...)
		roomy[at].Kids = append(make([]int, 0, 8), l[at].Kids...)
	}
	early.Check(roomy)
	for at, n := range roomy {
		if more := n.Names[len(n.Names):cap(n.Names)]; strings.Join(more, "") != "" {
			t.Errorf("R3: behind the names of node %d: %q", at, more)
		}
		if more := n.Kids[len(n.Kids):cap(n.Kids)]; slices.ContainsFunc(more, func(kid int) bool { return kid != 0 }) {
			t.Errorf("R3: behind the kids of node %d: %v", at, more)
		}
	}
}

// What one call tells hangs on nothing that was asked ahead of it.
func TestCallsDoNotTouchOneAnother(t *testing.T) {
	wrong, right := parsed(t, "x; a = 1"), parsed(t, "x; let a = 1; a = 2")
	for range 3 {
		if at, ok := early.Check(wrong); at != 3 || ok {
			t.Errorf("R5: of what is wrong: %d, %v", at, ok)
		}
		if at, ok := early.Check(right); at != 0 || !ok {
			t.Errorf("R5: of what is right: %d, %v", at, ok)
		}
	}
}
