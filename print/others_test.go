package print_test

import (
	"testing"

	"boomerang/api"
	"boomerang/print"
)

// wantEnds holds that Print of nodes of which nothing is said ends, and tells the
// same each time.
func wantEnds(t *testing.T, l []api.Node) {
	t.Helper()
	was := copied(l)
	if a, b := print.Print(l), print.Print(l); a != b {
		t.Errorf("R1: Print of %.200v: %.80q and %.80q", l, a, b)
	}
	if !alike(l, was) {
		t.Errorf("R3: Print turned %.200v", l)
	}
}

// wantNone holds that Print of nodes in which one cannot go about tells no program.
func wantNone(t *testing.T, l []api.Node) {
	t.Helper()
	wantEnds(t, l)
	if s := print.Print(l); s != "" {
		t.Errorf("R1: Print of %.200v: %.80q", l, s)
	}
}

func TestPrintOfNoTree(t *testing.T) {
	x := api.Node{Kind: api.NName, Text: "x"}
	all := func(kids ...int) api.Node { return api.Node{Kind: api.NAll, Kids: kids} }
	expr := func(kids ...int) api.Node { return api.Node{Kind: api.NExpr, Kids: kids} }
	arr := func(kids ...int) api.Node { return api.Node{Kind: api.NArr, Kids: kids} }
	for _, l := range [][]api.Node{
		nil, {}, {{}}, {x}, {x, expr(0)}, {{Kind: -1}}, {{Kind: api.NAll + 1}},
		// Kids that there are not, or that do not stand ahead.
		{all(0)}, {all(1)}, {all(-1)}, {all(api.MaxInt)}, {x, expr(0), all(2)}, {x, expr(1), all(1)}, {x, expr(2), all(1)}, {x, expr(-1), all(1)}, {expr(1), x, all(0)},
		// Kids of two, or of none.
		{x, arr(0, 0), expr(1), all(2)}, {x, expr(0), all(1, 1)}, {x, expr(0), all()}, {x, x, expr(1), all(2)}, {x, expr(0), expr(0), all(1, 2)}, {x, arr(0), arr(0, 1), expr(2), all(3)},
		{x, x, arr(1, 0), expr(2), all(3)}, {all(), all()},
		// Another last one, or one that has too many.
		{x, expr(0), {Kind: api.NBlock, Kids: []int{1}}}, {x, {Kind: api.NBreak, Kids: []int{0}}, all(1)}, {x, x, {Kind: api.NReturn, Kids: []int{0, 1}}, all(2)},
	} {
		wantNone(t, l)
	}
	wantText(t, []api.Node{x, x, arr(0, 1), expr(2), all(3)}, "[x, x];\n")
}

// Each node leads to the one ahead of it twice: one that went to all kids would
// not come back.
func TestPrintOfSharedKids(t *testing.T) {
	l := []api.Node{{Kind: api.NName, Text: "x"}}
	for at := range 60 {
		l = append(l, api.Node{Kind: api.NAnd, Kids: []int{at, at}})
	}
	wantNone(t, append(l, api.Node{Kind: api.NExpr, Kids: []int{60}}, api.Node{Kind: api.NAll, Kids: []int{61}}))
}

// More nodes than any program has, so deep within one another that a call for each
// would find no room.
func TestPrintOfMoreThanPrograms(t *testing.T) {
	const count = 3000000
	places := make([]int, count)
	l := make([]api.Node, 1, count+1)
	l[0] = api.Node{Kind: api.NName, Text: "x"}
	for at := range count - 1 {
		places[at] = at
		l = append(l, api.Node{Kids: places[at : at+1]})
	}
	places[count-1] = count - 1
	l = append(l, api.Node{Kind: api.NAll, Kids: places[count-1:]})
	for _, kind := range []int{api.NUnary, api.NCall, api.NBlock, api.NAll} {
		for at := range count - 1 {
			l[at+1].Kind = kind
		}
		if s := print.Print(l); s != "" {
			t.Errorf("R1: Print of nodes that lie too deep: %.80q", s)
		}
	}
}

// Each kind with each number of kids, of each kind, where an e stands and where a
// statement stands.
func TestPrintOfNodesOfNoForm(t *testing.T) {
	for kind := -1; kind <= api.NAll+1; kind++ {
		for kid := -1; kid <= api.NAll+1; kid++ {
			for count := range 5 {
				for _, names := range [][]string{nil, {"a"}, {"a", "b"}} {
					var kids []tree
					for range count {
						kids = append(kids, of(kid, "?"))
					}
					x := of(kind, "?", kids...).named(names...)
					wantEnds(t, program(x))
					wantEnds(t, program(of(api.NExpr, "", x)))
					wantEnds(t, program(of(api.NDef, "", x)))
					wantEnds(t, x.add(nil))
				}
			}
		}
	}
}

// Made trees of which one number, name or text is turned.
func TestPrintOfSpoiltTrees(t *testing.T) {
	for seed := range uint32(3000) {
		m := newMaker(seed*104729 + 7)
		l := program(m.statements(4)...)
		n := &l[m.turn(len(l))]
		switch m.turn(6) {
		case 0:
			n.Kind = m.turn(api.NAll+3) - 1
		case 1:
			n.Kids = append(n.Kids, m.turn(len(l)+2)-1)
		case 2:
			n.Kids = n.Kids[:m.turn(len(n.Kids)+1)]
		case 3:
			n.Names = append(n.Names, "")
		case 4:
			n.Text, n.Num = "\x00\xff", -5
		default:
			if len(n.Kids) > 0 {
				n.Kids[m.turn(len(n.Kids))] = m.turn(len(l))
			}
		}
		wantEnds(t, l)
	}
}
