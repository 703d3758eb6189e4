package print_test

import (
	"slices"
	"strings"

	"boomerang/api"
)

// tree is a node with all below it.
type tree struct {
	node api.Node
	kids []tree
}

// of makes a tree of a kind.
func of(kind int, text string, kids ...tree) tree {
	return tree{api.Node{Kind: kind, Text: text}, kids}
}

// add puts a tree behind nodes, as 8.3 says.
func (x tree) add(l []api.Node) []api.Node {
	n := x.node
	n.Kids = nil
	for _, kid := range x.kids {
		l = kid.add(l)
		n.Kids = append(n.Kids, len(l)-1)
	}
	return append(l, n)
}

// program tells the nodes of one.
func program(statements ...tree) []api.Node {
	return of(api.NAll, "", statements...).add(nil)
}

// named tells a tree with names.
func (x tree) named(names ...string) tree {
	x.node.Names = names
	return x
}

// numbered tells a tree with a number.
func (x tree) numbered(n int) tree {
	x.node.Num = n
	return x
}

// name makes an e of one name.
func name(s string) tree {
	return of(api.NName, s)
}

// shape is an e that asks for so many others; targets says that the first may only
// be what may be set.
type shape struct {
	kind    int
	count   int
	target  bool
	written func(kids []tree) tree
}

// plain is a shape that is made of its kind, its text and its kids alone.
func plain(kind int, text string, count int) shape {
	return shape{kind, count, kind == api.NSet, func(kids []tree) tree { return of(kind, text, kids...) }}
}

// shapes are e's of each kind and of each level, with none, one and several e's in
// them; signs are those of NBinary.
func shapes(signs string) []shape {
	l := []shape{
		plain(api.NName, "n", 0), plain(api.NStr, "s", 0), plain(api.NNum, "", 0), plain(api.NBool, "", 0),
		plain(api.NNull, "", 0), plain(api.NUndef, "", 0), plain(api.NThis, "", 0),
		plain(api.NArr, "", 0), plain(api.NArr, "", 1), plain(api.NArr, "", 2), plain(api.NGet, "g", 1), plain(api.NGet, "if", 1), plain(api.NAt, "", 2),
		plain(api.NCall, "", 1), plain(api.NCall, "", 2), plain(api.NCall, "", 3),
		plain(api.NUnary, "!", 1), plain(api.NUnary, "-", 1), plain(api.NUnary, "typeof", 1),
		plain(api.NAnd, "", 2), plain(api.NOr, "", 2), plain(api.NCond, "", 3), plain(api.NSet, "", 2), plain(api.NYield, "", 1),
	}
	for _, sign := range strings.Fields(signs) {
		l = append(l, plain(api.NBinary, sign, 2))
	}
	l = append(l, shape{api.NObj, 0, false, func([]tree) tree { return of(api.NObj, "") }})
	l = append(l, shape{api.NObj, 2, false, func(kids []tree) tree { return of(api.NObj, "", kids...).named("k", "a \"b\"\n\\") }})
	l = append(l, shape{api.NFun, 0, false, func([]tree) tree { return of(api.NFun, "").numbered(1) }})
	l = append(l, shape{api.NFun, 1, false, func(kids []tree) tree {
		return of(api.NFun, "f", of(api.NExpr, "", kids[0])).named("p", "q")
	}})
	return append(l, shape{api.NFun, 1, false, func(kids []tree) tree { return of(api.NFun, "", of(api.NReturn, "", kids[0])) }})
}

// mayHave tells whether a shape may have a kind of e in a place.
func (s shape) mayHave(kind, place int) bool {
	return !s.target || place > 0 || slices.Contains([]int{api.NName, api.NGet, api.NAt}, kind)
}

// with tells a shape's e with one e in a place, and names in the others.
func (s shape) with(x tree, place int) tree {
	var kids []tree
	for i := range s.count {
		if i == place {
			kids = append(kids, x)
		} else {
			kids = append(kids, name(string(rune('a'+i))))
		}
	}
	return s.written(kids)
}
