package print_test

import (
	"strconv"
	"strings"
	"testing"

	"boomerang/api"
)

// model writes trees by the words of 9.1 and 8.2: of each e what it is, and how it
// is written, where `@` and a letter stand for the part that the next kid is.
type model []api.Node

// parts are those of 8.2; what is one of them is each that stands ahead of it, too.
const parts = "ecoaqrsmup"

// rules tell of each e with parts in it which part it is, and how it is written.
func rules(n api.Node) (part byte, written string) {
	switch n.Kind {
	case api.NYield:
		return 'e', "yield @e"
	case api.NSet:
		return 'e', "@c = @e"
	case api.NCond:
		return 'c', "@o ? @e : @e"
	case api.NOr:
		return 'o', "@o || @a"
	case api.NAnd:
		return 'a', "@a && @q"
	case api.NUnary:
		return 'u', map[string]string{"!": "!@u", "-": "-@u", "typeof": "typeof @u"}[n.Text]
	case api.NBinary:
		return twoRules(n.Text)
	case api.NGet:
		return 'p', "@p." + n.Text
	case api.NAt:
		return 'p', "@p[@e]"
	case api.NCall:
		return 'p', "@p(" + strings.TrimPrefix(strings.Repeat(", @e", len(n.Kids)-1), ", ") + ")"
	case api.NArr:
		return 'p', "[" + strings.TrimPrefix(strings.Repeat(", @e", len(n.Kids)), ", ") + "]"
	}
	return 'p', ""
}

func twoRules(sign string) (part byte, written string) {
	switch sign {
	case "===", "!==":
		return 'q', "@q " + sign + " @r"
	case "<", "<=", ">", ">=":
		return 'r', "@r " + sign + " @s"
	case "+", "-":
		return 's', "@s " + sign + " @m"
	case "*", "/", "%":
		return 'm', "@m " + sign + " @u"
	}
	panic(sign)
}

// part writes an e where a part is asked for; front: an NExpr would begin with it.
func (m model) part(place int, asked byte, front bool) string {
	n := m[place]
	is, written := rules(n)
	parens := strings.IndexByte(parts, is) < strings.IndexByte(parts, asked) || front && (n.Kind == api.NObj || n.Kind == api.NFun)
	front = front && !parens
	s := m.alone(n)
	if written != "" {
		l := strings.Split(written, "@")
		s = l[0]
		for i, rest := range l[1:] {
			s += m.part(n.Kids[i], rest[0], front && i == 0 && l[0] == "") + rest[1:]
		}
	}
	if parens {
		return "(" + s + ")"
	}
	return s
}

// alone writes an e in which none is a part.
func (m model) alone(n api.Node) string {
	switch n.Kind {
	case api.NNum:
		return strconv.Itoa(n.Num)
	case api.NStr:
		return said(n.Text)
	case api.NName:
		return n.Text
	case api.NBool:
		return []string{"false", "true"}[n.Num]
	case api.NNull:
		return "null"
	case api.NUndef:
		return "undefined"
	case api.NThis:
		return "this"
	case api.NObj:
		var l []string
		for i, kid := range n.Kids {
			l = append(l, said(n.Names[i])+": "+m.part(kid, 'e', false))
		}
		return "{" + strings.Join(l, ", ") + "}"
	case api.NFun:
		return "function" + strings.Repeat("*", n.Num) + " " + n.Text + "(" + strings.Join(n.Names, ", ") + ") {\n" + m.lines(n.Kids) + "}"
	}
	return ""
}

// said writes a text.
func said(s string) string {
	return `"` + strings.NewReplacer(`"`, `\"`, `\`, `\\`, "\n", `\n`).Replace(s) + `"`
}

// lines writes statements.
func (m model) lines(kids []int) (s string) {
	for _, kid := range kids {
		s += m.statement(m[kid])
	}
	return s
}

func (m model) statement(n api.Node) string {
	e := func(i int) string { return m.part(n.Kids[i], 'e', false) }
	s := func(i int) string { return m.lines(n.Kids[i : i+1]) }
	switch n.Kind {
	case api.NBlock:
		return "{\n" + m.lines(n.Kids) + "}\n"
	case api.NIf:
		if len(n.Kids) == 3 {
			return "if (" + e(0) + ")\n" + s(1) + "else\n" + s(2)
		}
		return "if (" + e(0) + ")\n" + s(1)
	case api.NWhile:
		return "while (" + e(0) + ")\n" + s(1)
	case api.NBreak:
		return "break;\n"
	case api.NNext:
		return "continue;\n"
	case api.NReturn:
		if len(n.Kids) == 0 {
			return "return;\n"
		}
		return "return " + e(0) + ";\n"
	case api.NThrow:
		return "throw " + e(0) + ";\n"
	case api.NTry:
		return "try\n" + s(0) + "catch (" + n.Text + ")\n" + s(1)
	case api.NLet:
		return "let " + n.Text + " = " + e(0) + ";\n"
	case api.NConst:
		return "const " + n.Text + " = " + e(0) + ";\n"
	case api.NDef:
		return e(0) + "\n"
	case api.NExpr:
		return m.part(n.Kids[0], 'e', true) + ";\n"
	}
	panic(n.Kind)
}

// wantModel holds Print beside the model.
func wantModel(t *testing.T, l []api.Node) {
	t.Helper()
	wantText(t, l, model(l).lines(l[len(l)-1].Kids))
	if t.Failed() {
		t.FailNow()
	}
}

// Each kind of e in each place of each, at the front of a statement and elsewhere.
func TestEachKindWithinEach(t *testing.T) {
	all := shapes("=== !== < <= > >= + - * / %")
	tried := 0
	for _, outer := range all {
		for place := range max(outer.count, 1) {
			for _, inner := range all {
				if !outer.mayHave(inner.kind, place) {
					continue
				}
				x := outer.with(inner.with(name("x"), 0), place)
				wantModel(t, program(of(api.NExpr, "", x)))
				wantModel(t, program(of(api.NThrow, "", x)))
				tried++
			}
		}
	}
	if tried < 2000 {
		t.Errorf("9.1: few e's: %d", tried)
	}
}

// Three within one another.
func TestEachKindWithinTwo(t *testing.T) {
	all := shapes("=== < + *")
	tried := 0
	for _, outer := range all {
		for at := range outer.count {
			for _, middle := range all {
				for place := range middle.count {
					for _, inner := range all {
						if !outer.mayHave(middle.kind, at) || !middle.mayHave(inner.kind, place) {
							continue
						}
						x := outer.with(middle.with(inner.with(name("x"), 0), place), at)
						wantModel(t, program(of(api.NExpr, "", x)))
						tried++
					}
				}
			}
		}
	}
	if tried < 20000 {
		t.Errorf("9.1: few e's: %d", tried)
	}
}
