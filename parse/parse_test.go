package parse_test

import (
	"fmt"
	"slices"
	"strings"
	"testing"

	"boomerang/api"
	"boomerang/parse"
)

// kinds are the names of nodes, as api has them.
func kinds() []string {
	return strings.Fields("? Num Str Name Bool Null Undef This Obj Arr Fun Get At Call Unary Binary And Or Cond Set Yield Let Const Def Expr Block If While Break Next Return Throw Try All")
}

// told is a node with all below it: its kind, where it begins, and what it has of
// Num, Text, Names and Kids.
func told(l []api.Node, place int) string {
	n := l[place]
	s := fmt.Sprintf("%s@%d", kinds()[n.Kind], n.At)
	if n.Num != 0 {
		s += fmt.Sprintf("#%d", n.Num)
	}
	if n.Text != "" {
		s += ":" + n.Text
	}
	if len(n.Names) > 0 {
		s += fmt.Sprintf("%q", n.Names)
	}
	if len(n.Kids) > 0 {
		var below []string
		for _, kid := range n.Kids {
			below = append(below, told(l, kid))
		}
		s += "(" + strings.Join(below, " ") + ")"
	}
	return s
}

// parsed tells the nodes of a program, and holds what is so of all of them.
func parsed(t *testing.T, src string) []api.Node {
	t.Helper()
	l, at, ok := parse.Parse(src)
	if !ok || at != 0 {
		t.Fatalf("8.4: Parse of %.80q: at %d, %v; want a program", src, at, ok)
	}
	wantOrder(t, src, l)
	for place := range l {
		wantForm(t, src, l, place)
	}
	again, _, _ := parse.Parse(src)
	if !sameNodes(l, again) {
		t.Fatalf("R1: Parse of %.80q tells another tree the second time", src)
	}
	return l
}

// sameNodes holds all fields against one another; a nil list and an empty one are
// one.
func sameNodes(a, b []api.Node) bool {
	return slices.EqualFunc(a, b, func(x, y api.Node) bool {
		return x.Kind == y.Kind && x.Num == y.Num && x.Text == y.Text && x.At == y.At &&
			slices.Equal(x.Names, y.Names) && slices.Equal(x.Kids, y.Kids)
	})
}

// wantOrder holds that nodes stand as they are met when one goes from the last
// through kids in order, each told behind all below it.
func wantOrder(t *testing.T, src string, l []api.Node) {
	t.Helper()
	met := 0
	var walk func(place int)
	walk = func(place int) {
		if place < 0 || place >= len(l) {
			t.Fatalf("8.3: Parse of %.80q: a kid %d of %d nodes", src, place, len(l))
		}
		for _, kid := range l[place].Kids {
			if kid >= place {
				t.Fatalf("8.3: Parse of %.80q: node %d has kid %d", src, place, kid)
			}
			walk(kid)
		}
		if place != met {
			t.Fatalf("8.3: Parse of %.80q: node %d stands where %d should", src, place, met)
		}
		met++
	}
	if len(l) == 0 || l[len(l)-1].Kind != api.NAll {
		t.Fatalf("8.3: Parse of %.80q: the last node is no NAll", src)
	}
	walk(len(l) - 1)
	if met != len(l) {
		t.Fatalf("8.3: Parse of %.80q: %d of %d nodes are in the tree", src, met, len(l))
	}
}

// form says what a kind of node is and has.
type form struct {
	statement, num, text, names bool
	least, most                 int  // kids; most -1: as many as may be
	first                       bool // it begins where its first kid does
}

// forms are those of all kinds.
var forms = allForms()

func allForms() map[int]form {
	two := form{least: 2, most: 2, first: true}
	named := form{statement: true, text: true, least: 1, most: 1}
	return map[int]form{
		api.NNum: {num: true}, api.NStr: {text: true}, api.NName: {text: true}, api.NBool: {num: true},
		api.NNull: {}, api.NUndef: {}, api.NThis: {},
		api.NObj: {names: true, most: -1}, api.NArr: {most: -1},
		api.NFun: {text: true, names: true, num: true, most: -1},
		api.NGet: {text: true, least: 1, most: 1, first: true}, api.NAt: two,
		api.NCall: {least: 1, most: -1, first: true}, api.NUnary: {text: true, least: 1, most: 1},
		api.NBinary: {text: true, least: 2, most: 2, first: true}, api.NAnd: two, api.NOr: two,
		api.NCond: {least: 3, most: 3, first: true}, api.NSet: two, api.NYield: {least: 1, most: 1},
		api.NLet: named, api.NConst: named, api.NDef: {statement: true, least: 1, most: 1, first: true},
		api.NExpr: {statement: true, least: 1, most: 1, first: true}, api.NBlock: {statement: true, most: -1},
		api.NIf: {statement: true, least: 2, most: 3}, api.NWhile: {statement: true, least: 2, most: 2},
		api.NBreak: {statement: true}, api.NNext: {statement: true}, api.NReturn: {statement: true, most: 1},
		api.NThrow: {statement: true, least: 1, most: 1}, api.NTry: {statement: true, text: true, least: 2, most: 2},
		api.NAll: {most: -1},
	}
}

// wantForm holds that a node has what api says of its kind, and nothing else.
func wantForm(t *testing.T, src string, l []api.Node, place int) {
	t.Helper()
	n := l[place]
	f, ok := forms[n.Kind]
	if !ok || n.Kind == api.NAll && place != len(l)-1 {
		t.Fatalf("8.3: Parse of %.80q: node %d is %+v", src, place, n)
	}
	if !f.num && n.Num != 0 || !f.text && n.Text != "" || !f.names && len(n.Names) != 0 {
		t.Fatalf("R4: Parse of %.80q: node %d has what its kind has not: %+v", src, place, n)
	}
	if len(n.Kids) < f.least || f.most >= 0 && len(n.Kids) > f.most {
		t.Fatalf("8.3: Parse of %.80q: node %d has so many kids: %+v", src, place, n)
	}
	if n.Kind == api.NObj && len(n.Names) != len(n.Kids) {
		t.Fatalf("8.3: Parse of %.80q: node %d has names and values: %+v", src, place, n)
	}
	if f.first && n.At != l[n.Kids[0]].At || n.At < 0 || n.At > len(src) {
		t.Fatalf("8.3: Parse of %.80q: node %d begins at %d", src, place, n.At)
	}
	for i, kid := range n.Kids {
		if want := wantsStatement(n.Kind, i); want != forms[l[kid].Kind].statement {
			t.Fatalf("8.3: Parse of %.80q: kid %d of node %d is %+v", src, i, place, l[kid])
		}
	}
}

// wantsStatement tells whether a kid of a kind of node is a statement, or an e.
func wantsStatement(kind, kid int) bool {
	switch kind {
	case api.NAll, api.NBlock, api.NFun, api.NTry:
		return true
	case api.NIf, api.NWhile:
		return kid > 0
	}
	return false
}

// wantTree holds a program's tree, all of it.
func wantTree(t *testing.T, src, want string) {
	t.Helper()
	l := parsed(t, src)
	if got := told(l, len(l)-1); got != want {
		t.Errorf("8.3: Parse of %q:\n got %s\nwant %s", src, got, want)
	}
}

// wantOne holds the tree of the one statement of a program.
func wantOne(t *testing.T, src, want string) {
	t.Helper()
	wantTree(t, src, "All@0("+want+")")
}

// wantExpr holds the tree of the e that is all of a program.
func wantExpr(t *testing.T, src, want string) {
	t.Helper()
	l := parsed(t, src)
	all := l[len(l)-1]
	if len(all.Kids) != 1 || l[all.Kids[0]].Kind != api.NExpr {
		t.Errorf("8.2: Parse of %q: %s; want one e", src, told(l, len(l)-1))
		return
	}
	if got := told(l, l[all.Kids[0]].Kids[0]); got != want {
		t.Errorf("8.2: Parse of %q:\n got %s\nwant %s", src, got, want)
	}
}

// wantSame holds that two programs have one tree, but for where its nodes begin.
func wantSame(t *testing.T, promise, src, other string) {
	t.Helper()
	a, b := parsed(t, src), parsed(t, other)
	for _, l := range [][]api.Node{a, b} {
		for i := range l {
			l[i].At = 0
		}
	}
	if !sameNodes(a, b) {
		t.Errorf("%s: Parse of %q and of %q:\n %s\n %s", promise, src, other, told(a, len(a)-1), told(b, len(b)-1))
	}
}

// wantStop holds that Parse of src is false; `^`, which is no token, marks in it
// where.
func wantStop(t *testing.T, marked string) {
	t.Helper()
	want := strings.Index(marked, "^")
	if want < 0 {
		t.Fatalf("no mark in %q", marked)
	}
	wantFalse(t, marked[:want]+marked[want+1:], want)
}

// wantFalse holds that Parse of src is false at a place.
func wantFalse(t *testing.T, src string, want int) {
	t.Helper()
	for range 2 {
		if l, at, ok := parse.Parse(src); ok || at != want || len(l) != 0 {
			t.Errorf("8.4: Parse of %.80q: %d nodes, at %d, %v; want none, at %d, false", src, len(l), at, ok, want)
		}
	}
}

func TestAnEmptyProgram(t *testing.T) {
	for _, src := range []string{"", " ", "\n", "// a", "\n // a;\n\t\r"} {
		wantTree(t, src, "All@0")
	}
}

func TestTheChaptersExample(t *testing.T) {
	l := parsed(t, "a")
	want := []api.Node{
		{Kind: api.NName, Text: "a"},
		{Kind: api.NExpr, Kids: []int{0}},
		{Kind: api.NAll, Kids: []int{1}},
	}
	if !sameNodes(l, want) {
		t.Errorf("8.3: Parse of `a`: %+v", l)
	}
}

// Whoever writes into what is told, or appends to it, changes nothing else.
func TestWhatIsToldIsNewMemory(t *testing.T) {
	src := "function f(a, b, c) { g(1, 2, 3, 4, 5); h; i; return {x: 1, y: 2, z: 3} } [1, 2, 3]; if (a) b; else c"
	l, _, _ := parse.Parse(src)
	want := fmt.Sprint(l)
	kept := func(l []api.Node) []api.Node {
		m := slices.Clone(l)
		for i := range m {
			m[i].Names, m[i].Kids = slices.Clone(m[i].Names), slices.Clone(m[i].Kids)
		}
		return m
	}
	for i := range l {
		before := kept(l)
		_ = append(append(l[i].Kids, -7), -7)
		_ = append(append(l[i].Names, "other"), "other")
		for j := range l[i].Kids {
			l[i].Kids[j] = -9
		}
		for j := range l[i].Names {
			l[i].Names[j] = "turned"
		}
		l[i].Kids, l[i].Names = before[i].Kids, before[i].Names
		if !sameNodes(l, before) {
			t.Fatalf("R3: what is written into the lists of node %d is seen in another", i)
		}
	}
	_ = append(l, api.Node{Kind: -1})
	clear(l)
	if l, _, _ := parse.Parse(src); fmt.Sprint(l) != want {
		t.Error("R3: what is written into an answer is seen in the next")
	}
}

func TestMaxText(t *testing.T) {
	for _, src := range []string{strings.Repeat(" ", api.MaxText), strings.Repeat("a;", api.MaxText/2), "//" + strings.Repeat("x", api.MaxText-2)} {
		parsed(t, src)
		for _, more := range []string{" ", ";", "@", strings.Repeat("\n", 9000)} {
			wantFalse(t, src+more, 0)
		}
	}
	// Of too many bytes none is looked at, not even those that are wrong.
	wantFalse(t, "a b"+strings.Repeat(" ", api.MaxText), 0)
	wantFalse(t, "a b"+strings.Repeat(" ", api.MaxText-3), 2)
}
