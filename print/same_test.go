package print_test

import (
	"slices"
	"testing"

	"boomerang/api"
	"boomerang/print"
)

// wantSame holds what Same tells of nodes, either way, and of what it is handed.
func wantSame(t *testing.T, a, b []api.Node, want bool) {
	t.Helper()
	wasA, wasB := copied(a), copied(b)
	for range 2 {
		if print.Same(a, b) != want || print.Same(b, a) != want {
			t.Errorf("9.2: Same of %+v and %+v is not %v", a, b, want)
		}
	}
	if !alike(a, wasA) || !alike(b, wasB) {
		t.Error("R3: Same turned what it was handed")
	}
}

func TestSameOfEmptyOnes(t *testing.T) {
	one := []api.Node{{Kind: api.NAll}}
	wantSame(t, nil, nil, true)
	wantSame(t, nil, []api.Node{}, true)
	wantSame(t, []api.Node{}, make([]api.Node, 0, 3), true)
	wantSame(t, nil, one, false)
	wantSame(t, []api.Node{}, one, false)
	wantSame(t, one, one, true)
	wantSame(t, []api.Node{{}}, nil, false)
	wantSame(t, []api.Node{{}}, []api.Node{{}}, true)
	wantSame(t, []api.Node{{}}, []api.Node{{Names: []string{}, Kids: []int{}}}, true)
	wantSame(t, []api.Node{{}}, []api.Node{{Names: []string{""}}}, false)
	wantSame(t, []api.Node{{}}, []api.Node{{Kids: []int{0}}}, false)
}

// fullNode is a node with all that one may have.
func fullNode() api.Node {
	return api.Node{Kind: api.NFun, Num: 1, Text: "f", Names: []string{"a", "b"}, Kids: []int{0, 1}, At: 3}
}

func TestSameOfNodesUnlikeInOneThing(t *testing.T) {
	for what, turned := range map[string]func(n *api.Node){
		"Kind":             func(n *api.Node) { n.Kind = api.NObj },
		"Kind below 0":     func(n *api.Node) { n.Kind = -api.NFun },
		"Num":              func(n *api.Node) { n.Num = 0 },
		"Num below 0":      func(n *api.Node) { n.Num = -1 },
		"Text":             func(n *api.Node) { n.Text = "g" },
		"Text empty":       func(n *api.Node) { n.Text = "" },
		"Text longer":      func(n *api.Node) { n.Text = "f " },
		"Text great":       func(n *api.Node) { n.Text = "F" },
		"Names nil":        func(n *api.Node) { n.Names = nil },
		"Names fewer":      func(n *api.Node) { n.Names = n.Names[:1] },
		"Names more":       func(n *api.Node) { n.Names = append(n.Names, "") },
		"Names other":      func(n *api.Node) { n.Names[1] = "c" },
		"Names turned":     func(n *api.Node) { slices.Reverse(n.Names) },
		"Names joined":     func(n *api.Node) { n.Names = []string{"ab", ""} },
		"Kids nil":         func(n *api.Node) { n.Kids = nil },
		"Kids fewer":       func(n *api.Node) { n.Kids = n.Kids[:1] },
		"Kids more":        func(n *api.Node) { n.Kids = append(n.Kids, 0) },
		"Kids other":       func(n *api.Node) { n.Kids[0] = 1 },
		"Kids turned":      func(n *api.Node) { slices.Reverse(n.Kids) },
		"Kids of no place": func(n *api.Node) { n.Kids[1] = -1 },
	} {
		for at := range 3 {
			a := []api.Node{fullNode(), fullNode(), fullNode()}
			b := copied(a)
			wantSame(t, a, b, true)
			turned(&b[at])
			wantSame(t, a, b, false)
			if t.Failed() {
				t.Fatalf("9.2: %s of node %d", what, at)
			}
			turned(&a[at])
			wantSame(t, a, b, true)
		}
	}
}

func TestSameOfNodesAlikeButForAt(t *testing.T) {
	for at := range 3 {
		for _, where := range []int{0, 2, 4, -1, api.MaxInt} {
			a := []api.Node{fullNode(), fullNode(), fullNode()}
			b := copied(a)
			b[at].At = where
			wantSame(t, a, b, true)
		}
	}
}

func TestSameOfFewerAndMore(t *testing.T) {
	l := []api.Node{fullNode(), {}, fullNode()}
	for n := range l {
		wantSame(t, l, l[:n], false)
		wantSame(t, l, l[n+1:], false)
		wantSame(t, l[:n], copied(l)[:n], true)
	}
	other := fullNode()
	other.Num = 5
	wantSame(t, []api.Node{fullNode(), other}, []api.Node{other, fullNode()}, false)
}

func TestSameOfPrograms(t *testing.T) {
	for _, src := range []string{"", "a", "f(1, a)", "if (a) { b } else c", "function * f(a, b) { return {c: \"d\"} }", "let a = 1; const b = -a"} {
		spaced := " // first\n" + src + "\n ; "
		if src == "" {
			spaced = " // first\n"
		}
		if src != "" && src[len(src)-1] == '}' {
			spaced = "\t" + src + " // last"
		}
		wantSame(t, parsed(t, src), parsed(t, spaced), true)
	}
	for _, l := range [][]string{
		{"a", "b"}, {"a", "\"a\""}, {"a", "a; a"}, {"1", "2"}, {"true", "false"}, {"null", "undefined"}, {"!a", "-a"}, {"a + b", "a - b"}, {"a && b", "a || b"},
		{"a + b + c", "a + (b + c)"}, {"a.b", "a[b]"}, {"a.b", "a.c"}, {"a(b)", "a[b]"}, {"a(b, c)", "a(b)(c)"}, {"[]", "[[]]"}, {"({a: b})", "({c: b})"}, {"({a: b, c: d})", "({c: d, a: b})"},
		{"function f() {}", "(function f() {})"}, {"function f() {}", "function * f() {}"}, {"function f(a) {}", "function f(b) {}"}, {"function f(a) {}", "function f() { a }"}, {"a = function () {}", "a = function a() {}"},
		{"let a = 1", "const a = 1"}, {"let a = 1", "a = 1"}, {"{}", ""}, {"{ a }", "a"}, {"{ a } b", "{ a; b }"}, {"if (a) b", "while (a) b"}, {"if (a) b; else c", "if (a) b; c"},
		{"if (a) { if (b) c } else d", "if (a) { if (b) c; else d }"}, {"break", "continue"}, {"return", "return undefined"}, {"return a", "throw a"}, {"try {} catch (a) {}", "try {} catch (b) {}"}, {"yield a", "a"},
	} {
		wantSame(t, parsed(t, l[0]), parsed(t, l[1]), false)
		if print.Print(parsed(t, l[0])) == print.Print(parsed(t, l[1])) {
			t.Errorf("9.3: %q and %q are printed alike", l[0], l[1])
		}
	}
}
