package print

import (
	"strconv"
	"strings"

	"boomerang/api"
)

// expr writes an e, where any may stand.
func (p *printer) expr(kid int) {
	p.part(kid, levelE)
}

// part writes what stands where a part of a level is asked for.
func (p *printer) part(kid int, asked level) {
	n := p.nodes[kid]
	if !isBelow(levelOf(n), asked) && !p.misleads(n) {
		p.bare(n)
		return
	}
	p.put("(")
	p.bare(n)
	p.put(")")
}

// misleads tells whether a statement would be no NExpr if n stood here bare.
func (p *printer) misleads(n api.Node) bool {
	return p.out.Len() == p.begin && (n.Kind == api.NObj || n.Kind == api.NFun)
}

// bare writes an e without parens around it.
func (p *printer) bare(n api.Node) {
	switch n.Kind {
	case api.NObj:
		p.object(n)
	case api.NArr:
		p.list("[", n.Kids, "]")
	case api.NFun:
		p.function(n)
	case api.NGet:
		p.part(n.Kids[0], levelP)
		p.put(".", n.Text)
	case api.NAt:
		p.part(n.Kids[0], levelP)
		p.list("[", n.Kids[1:], "]")
	case api.NCall:
		p.part(n.Kids[0], levelP)
		p.list("(", n.Kids[1:], ")")
	case api.NUnary:
		p.unary(n)
	case api.NOr:
		p.two(n, "||")
	case api.NAnd:
		p.two(n, "&&")
	case api.NBinary:
		p.two(n, n.Text)
	case api.NCond:
		p.part(n.Kids[0], levelO)
		p.put(" ? ")
		p.expr(n.Kids[1])
		p.put(" : ")
		p.expr(n.Kids[2])
	case api.NSet:
		p.part(n.Kids[0], levelC)
		p.put(" = ")
		p.expr(n.Kids[1])
	case api.NYield:
		p.put("yield ")
		p.expr(n.Kids[0])
	default:
		p.leaf(n)
	}
}

// leaf writes what is one token.
func (p *printer) leaf(n api.Node) {
	switch n.Kind {
	case api.NNum:
		p.put(strconv.Itoa(n.Num))
	case api.NStr:
		p.text(n.Text)
	case api.NName:
		p.put(n.Text)
	case api.NBool:
		p.put(strconv.FormatBool(n.Num == 1))
	case api.NNull:
		p.put("null")
	case api.NUndef:
		p.put("undefined")
	case api.NThis:
		p.put("this")
	}
}

// text writes what says s within a program.
func (p *printer) text(s string) {
	p.put(`"`)
	for i := range len(s) {
		switch s[i] {
		case '"', '\\':
			p.put(`\`, s[i:i+1])
		case '\n':
			p.put(`\n`)
		default:
			p.put(s[i : i+1])
		}
	}
	p.put(`"`)
}

// list writes e's with `, ` between, and what is around them.
func (p *printer) list(ahead string, kids []int, behind string) {
	p.put(ahead)
	for i, kid := range kids {
		p.comma(i)
		p.expr(kid)
	}
	p.put(behind)
}

// comma writes what stands ahead of an item of a row, which the first one has not.
func (p *printer) comma(item int) {
	if item > 0 {
		p.put(", ")
	}
}

func (p *printer) object(n api.Node) {
	p.put("{")
	for i, kid := range n.Kids {
		p.comma(i)
		p.text(n.Names[i])
		p.put(": ")
		p.expr(kid)
	}
	p.put("}")
}

func (p *printer) function(n api.Node) {
	p.put("function")
	if n.Num == 1 {
		p.put("*")
	}
	p.put(" ", n.Text, "(", strings.Join(n.Names, ", "), ") {\n")
	p.statements(n.Kids)
	p.put("}")
}

func (p *printer) unary(n api.Node) {
	p.put(n.Text)
	if n.Text == "typeof" {
		p.put(" ")
	}
	p.part(n.Kids[0], levelU)
}

// two writes two with a sign between, which bind from the left.
func (p *printer) two(n api.Node, sign string) {
	p.part(n.Kids[0], levelOf(n))
	p.put(" ", sign, " ")
	p.part(n.Kids[1], levelOf(n)+1)
}
