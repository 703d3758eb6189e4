package parse_test

import (
	"strconv"
	"strings"
	"testing"

	"boomerang/api"
	"boomerang/parse"
)

// writer writes trees as programs, by what 8.1 and 8.2 say of each kind of node.
type writer []api.Node

// each writes nodes with a text between.
func (w writer) each(kids []int, between string) string {
	var l []string
	for _, kid := range kids {
		l = append(l, w.write(kid))
	}
	return strings.Join(l, between)
}

// part writes an e where a p is asked for.
func (w writer) part(place int) string {
	switch w[place].Kind {
	case api.NUnary, api.NBinary, api.NAnd, api.NOr, api.NCond, api.NSet, api.NYield:
		return "(" + w.write(place) + ")"
	}
	return w.write(place)
}

func (w writer) write(place int) string {
	n := w[place]
	switch n.Kind {
	case api.NNum, api.NStr, api.NName, api.NBool, api.NNull, api.NUndef, api.NThis:
		return leafText(n)
	case api.NObj:
		var l []string
		for i, kid := range n.Kids {
			l = append(l, quoted(n.Names[i])+": "+w.write(kid))
		}
		return "{" + strings.Join(l, ", ") + "}"
	case api.NArr:
		return "[" + w.each(n.Kids, ", ") + "]"
	case api.NFun:
		return "function " + strings.Repeat("*", n.Num) + n.Text + "(" + strings.Join(n.Names, ", ") + ") {" + w.each(n.Kids, " ") + "}"
	case api.NGet:
		return w.part(n.Kids[0]) + "." + n.Text
	case api.NAt:
		return w.part(n.Kids[0]) + "[" + w.write(n.Kids[1]) + "]"
	case api.NCall:
		return w.part(n.Kids[0]) + "(" + w.each(n.Kids[1:], ", ") + ")"
	case api.NUnary:
		return n.Text + " " + w.part(n.Kids[0])
	case api.NBinary:
		return w.part(n.Kids[0]) + " " + n.Text + " " + w.part(n.Kids[1])
	case api.NAnd:
		return w.part(n.Kids[0]) + " && " + w.part(n.Kids[1])
	case api.NOr:
		return w.part(n.Kids[0]) + " || " + w.part(n.Kids[1])
	case api.NCond:
		return w.part(n.Kids[0]) + " ? " + w.write(n.Kids[1]) + " : " + w.write(n.Kids[2])
	case api.NSet:
		return w.write(n.Kids[0]) + " = " + w.write(n.Kids[1])
	case api.NYield:
		return "yield " + w.write(n.Kids[0])
	}
	return w.statement(n)
}

func (w writer) statement(n api.Node) string {
	switch n.Kind {
	case api.NLet:
		return "let " + n.Text + " = " + w.write(n.Kids[0]) + ";"
	case api.NConst:
		return "const " + n.Text + " = " + w.write(n.Kids[0]) + ";"
	case api.NExpr:
		s := w.write(n.Kids[0])
		if strings.HasPrefix(s, "{") || strings.HasPrefix(s, "function ") {
			s = "(" + s + ")"
		}
		return s + ";"
	case api.NBlock:
		return "{" + w.each(n.Kids, " ") + "}"
	case api.NIf:
		return "if (" + w.write(n.Kids[0]) + ") " + w.each(n.Kids[1:], " else ")
	case api.NWhile:
		return "while (" + w.write(n.Kids[0]) + ") " + w.write(n.Kids[1])
	case api.NBreak:
		return "break;"
	case api.NNext:
		return "continue;"
	case api.NReturn:
		return "return " + w.each(n.Kids, "") + ";"
	case api.NThrow:
		return "throw " + w.write(n.Kids[0]) + ";"
	case api.NTry:
		return "try " + w.write(n.Kids[0]) + " catch (" + n.Text + ") " + w.write(n.Kids[1])
	}
	// An NDef, and the NAll.
	return w.each(n.Kids, " ")
}

func leafText(n api.Node) string {
	switch n.Kind {
	case api.NNum:
		return strconv.Itoa(n.Num)
	case api.NStr:
		return quoted(n.Text)
	case api.NName:
		return n.Text
	case api.NBool:
		return strconv.FormatBool(n.Num == 1)
	case api.NNull:
		return "null"
	case api.NUndef:
		return "undefined"
	}
	return "this"
}

func quoted(s string) string {
	return `"` + strings.NewReplacer(`"`, `\"`, `\`, `\\`, "\n", `\n`).Replace(s) + `"`
}

// What is told is a program's: one that is written by the tree alone has the tree.
func TestToldTreesArePrograms(t *testing.T) {
	held := 0
	for seed := range uint32(3000) {
		l, _, ok := parse.Parse(made(seed*31337 + 5).src.String())
		if !ok {
			continue
		}
		src := writer(l).write(len(l) - 1)
		again, at, ok := parse.Parse(src)
		if !ok && tooDeepOrLong(src) {
			continue // parens of the writer's own
		}
		if !ok {
			t.Fatalf("8.5: Parse of %q, which a tree says: at %d, false", src, at)
		}
		held++
		for i := range l {
			l[i].At = 0
		}
		for i := range again {
			again[i].At = 0
		}
		if !sameNodes(l, again) {
			t.Fatalf("8.5: Parse of %q has not the tree that it was written by", src)
		}
	}
	if held < 2000 {
		t.Errorf("8.5: few trees: %d", held)
	}
}

// tooDeepOrLong tells whether a program may lie too deep, by its signs alone.
func tooDeepOrLong(src string) bool {
	depth, deepest := 0, 0
	for _, c := range src {
		switch c {
		case '(', '[', '{':
			depth++
			deepest = max(deepest, depth)
		case ')', ']', '}':
			depth--
		}
	}
	return deepest >= 8 || len(src) > api.MaxText
}
