package print_test

import (
	"strings"
	"testing"

	"boomerang/api"
	"boomerang/parse"
	"boomerang/print"
)

// maker makes trees that Parse may tell, by numbers that hang on the first alone.
type maker struct {
	seed   uint32
	shapes []shape
}

func newMaker(seed uint32) *maker {
	return &maker{seed, shapes("=== !== < <= > >= + - * / %")}
}

// turn tells a number from 0 up to below.
func (m *maker) turn(below int) int {
	m.seed = m.seed*1664525 + 1013904223
	return int(m.seed>>16) % below
}

func (m *maker) pick(s string) string {
	l := strings.Fields(s)
	return l[m.turn(len(l))]
}

func (m *maker) name() string {
	return m.pick("a b c $ _x letter iff a1")
}

// expr makes an e with so many levels of others in it.
func (m *maker) expr(fuel int) tree {
	s := m.shapes[m.turn(len(m.shapes))]
	if fuel <= 0 {
		return m.leaf()
	}
	if s.kind == api.NFun {
		return m.function(fuel - 1)
	}
	var kids []tree
	for i := range s.count {
		if s.target && i == 0 {
			kids = append(kids, m.target(fuel-1))
		} else {
			kids = append(kids, m.expr(fuel-1))
		}
	}
	return s.written(kids)
}

// target makes what may be set.
func (m *maker) target(fuel int) tree {
	switch m.turn(3) {
	case 0:
		return of(api.NGet, m.pick("a b if typeof"), m.expr(fuel-1))
	case 1:
		return of(api.NAt, "", m.expr(fuel-1), m.expr(fuel-1))
	}
	return name(m.name())
}

func (m *maker) leaf() tree {
	switch m.turn(8) {
	case 0:
		return of(api.NNum, "").numbered(m.turn(1000))
	case 1:
		return of(api.NStr, []string{"", "a b", "\"", "\\", "\n", "a\\n\"", "({"}[m.turn(7)])
	case 2:
		return of(api.NBool, "").numbered(m.turn(2))
	case 3:
		return of(api.NObj, "")
	case 4:
		return of(api.NUndef+m.turn(2), "")
	}
	return name(m.name())
}

func (m *maker) function(fuel int) tree {
	f := of(api.NFun, "", m.statements(fuel)...).numbered(m.turn(2))
	if m.turn(2) == 0 {
		f.node.Text = m.name()
	}
	for range m.turn(4) {
		f.node.Names = append(f.node.Names, m.name())
	}
	return f
}

func (m *maker) statements(fuel int) (l []tree) {
	for range m.turn(4) {
		l = append(l, m.statement(fuel, true, false))
	}
	return l
}

// statement makes one; names: it may make a name; whole: it may not end with an if
// that would take an else behind it.
func (m *maker) statement(fuel int, names, whole bool) tree {
	if fuel <= 0 {
		return of(api.NExpr, "", m.leaf())
	}
	switch m.turn(13) {
	case 0:
		return of(api.NBlock, "", m.statements(fuel-1)...)
	case 1:
		if whole {
			break
		}
		return of(api.NIf, "", m.expr(fuel-1), m.statement(fuel-1, false, false))
	case 2:
		return of(api.NIf, "", m.expr(fuel-1), m.statement(fuel-1, false, true), m.statement(fuel-1, false, whole))
	case 3:
		return of(api.NWhile, "", m.expr(fuel-1), m.statement(fuel-1, false, whole))
	case 4:
		return of(api.NBreak+m.turn(3), "")
	case 5:
		return of(api.NReturn+m.turn(2), "", m.expr(fuel-1))
	case 6:
		return of(api.NTry, m.name(), of(api.NBlock, "", m.statements(fuel-1)...), of(api.NBlock, "", m.statements(fuel-1)...))
	case 7:
		if names {
			return of(api.NLet+m.turn(2), m.name(), m.expr(fuel-1))
		}
	case 8:
		if names {
			f := m.function(fuel - 1)
			f.node.Text = m.name()
			return of(api.NDef, "", f)
		}
	}
	return of(api.NExpr, "", m.expr(fuel-1))
}

func TestMadeTreesBesideAModel(t *testing.T) {
	seen := map[int]int{}
	held, longest := 0, 0
	for seed := range uint32(4000) {
		m := newMaker(seed * 7919)
		l := program(append(m.statements(2+m.turn(4)), m.statements(4)...)...)
		if len(print.Print(l)) > api.MaxText {
			continue
		}
		wantModel(t, l)
		held, longest = held+1, max(longest, len(l))
		for _, n := range l {
			seen[n.Kind]++
		}
	}
	if held < 3000 || longest < 200 || len(seen) != api.NAll {
		t.Errorf("9.1: few trees, or few nodes, or few kinds: %d, %d, %v", held, longest, seen)
	}
}

// Rows that bind from the left lie deeper than anything else may.
func TestLongRows(t *testing.T) {
	row := func(first, more string, times int) string { return first + strings.Repeat(more, times) }
	for _, e := range []string{
		row("a", " + a", 1000), row("a", ".b", 2000), row("a", "()", 2000), row("a", "[0]", 1300), row("a", " || a", 800), row("[a", ", a", 1300) + "]",
		row("({})", ".b", 2000), row("(function () {\n})", "()", 2000),
	} {
		wantLong(t, e, e+";\n")
	}
	wantLong(t, strings.Repeat("a\n", 2048), strings.Repeat("a;\n", 2048))
	wantLong(t, strings.Repeat("a\n", 2047)+"-1", strings.Repeat("a;\n", 2046)+"a - 1;\n")
	wantLong(t, strings.Repeat("{}", 2048), strings.Repeat("{\n}\n", 2048))
	wantLong(t, strings.Repeat("1;", 2048), strings.Repeat("1;\n", 2048))
}

// wantLong holds what Print tells of a program in which it would take long to go
// through all parens.
func wantLong(t *testing.T, src, want string) {
	t.Helper()
	wantAlone(t, parsed(t, src), want)
}

// What lies as deep as it may is printed so that it lies no deeper.
func TestDeepPrograms(t *testing.T) {
	for _, src := range []string{
		strings.Repeat("{", 40) + strings.Repeat("}", 40),
		strings.Repeat("!", 36) + "a", strings.Repeat("-", 36) + "a", strings.Repeat("typeof ", 36) + "a",
		strings.Repeat("a=", 36) + "a", strings.Repeat("yield ", 36) + "a", strings.Repeat("a?", 36) + "a" + strings.Repeat(":a", 36),
		strings.Repeat("[", 12) + "a" + strings.Repeat("]", 12), strings.Repeat("a(", 12) + "a" + strings.Repeat(")", 12),
		strings.Repeat("(", 12) + "a" + strings.Repeat(")", 12), strings.Repeat("a+(", 12) + "a" + strings.Repeat(")", 12),
		strings.Repeat("(", 11) + "{}" + strings.Repeat(".a)", 11), strings.Repeat("({a:", 6) + "a" + strings.Repeat("})", 6),
		"({a:" + strings.Repeat("{a:", 10) + "a" + strings.Repeat("}", 10) + "})", strings.Repeat("(", 12) + "{}" + strings.Repeat(")", 12),
		strings.Repeat("if(a)", 36) + "a", strings.Repeat("(function(){", 5) + strings.Repeat("})", 5), strings.Repeat("function f(){", 40) + strings.Repeat("}", 40),
		strings.Repeat("(!", 9) + "a" + strings.Repeat(").b", 9),
	} {
		wantModel(t, parsed(t, src))
	}
}

// Programs as one writes them.
func TestPrograms(t *testing.T) {
	for _, src := range []string{
		"let n = 0; while (n < 10) { n = n + 1; if (n % 2 === 0) continue; if (n > 7) break; print(n) }",
		"function fib(n) { return n < 2 ? n : fib(n - 1) + fib(n - 2) } print(fib(10))",
		"const o = {name: \"x\", \"two words\": [1, 2, {deep: null}], f: function (a) { return this.name + a }}; o.f(1)[\"y\"] = o",
		"function * g(a) { let x = yield a; while (x !== undefined) { x = yield x * 2 } return (yield 1) || 2 }",
		"try { throw error(\"no \\\"way\\\"\\n\") } catch (e) { print(e) }\ntry { f() } catch (e) { try { g() } catch (e) {} }",
		"promise(function (yes, no) { setTimeout(function () { yes(1) }, 10) }).then(function (v) { print(v) })",
		"if (a) { if (b) c } else if (d) e; else { f }",
		"a = b = c || d && !e === -f * (g - (h - i)); // the end\n(function () { ({}).x = 1 })()",
		"let a = typeof typeof b; const c = (a ? b : c) ? (d = e) : yield f; [a, [b], []][0](1)(2, 3).x[y]",
	} {
		l := parsed(t, src)
		wantModel(t, l)
		for i := range l {
			l[i].At += 7
		}
		wantModel(t, l)
	}
}

// Trees that are not the same are not printed alike.
func TestPrintTellsTreesApart(t *testing.T) {
	texts := map[string][]api.Node{}
	for seed := range uint32(20000) {
		m := newMaker(seed*31337 + 1)
		l := program(of(api.NExpr, "", m.expr(1+m.turn(2))))
		s := print.Print(l)
		if was, ok := texts[s]; ok && !print.Same(was, l) {
			t.Fatalf("9.3: two trees are printed alike: %q", s)
		}
		texts[s] = l
	}
	if len(texts) < 5000 {
		t.Errorf("9.3: few texts: %d", len(texts))
	}
}

// Of a text that is too long to be a program nothing is said but what it is.
func TestTextsThatAreTooLong(t *testing.T) {
	for more := range 4 {
		s := strings.Repeat("a;\n", 1364) + strings.Repeat("b", 1+more) + ";\n"
		wantPrint(t, strings.ReplaceAll(s, ";\n", ";"), s)
		if _, _, ok := parse.Parse(s); ok != (more < 2) {
			t.Errorf("the test's own: Parse of %d bytes: %v", len(s), ok)
		}
	}
}
