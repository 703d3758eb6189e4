package parse

import (
	"slices"

	"boomerang/api"
)

// level is what binds alike: it makes a node of one of its signs.
type level interface {
	node(sign string) (n api.Node, ok bool)
}

// logic is a level of one sign, which has a kind of node to itself.
type logic struct {
	sign string
	kind int
}

func (l logic) node(sign string) (api.Node, bool) {
	return api.Node{Kind: l.kind}, sign == l.sign
}

// binary is a level of signs whose nodes are told apart by their Text.
type binary []string

func (b binary) node(sign string) (api.Node, bool) {
	return api.Node{Kind: api.NBinary, Text: sign}, slices.Contains(b, sign)
}

// logics are the levels that bind least, the least one first.
func logics() []logic {
	return []logic{{"||", api.NOr}, {"&&", api.NAnd}}
}

// binaries are the levels that bind more than those.
func binaries() []binary {
	return []binary{{"===", "!=="}, {"<", "<=", ">", ">="}, {"+", "-"}, {"*", "/", "%"}}
}

// chain takes parts with signs of a row of levels between; those of one level
// bind from the left.
func chain[L level](r *reader, row []L, part func() int) int {
	if len(row) == 0 {
		return part()
	}
	left := chain(r, row[1:], part)
	for {
		n, ok := row[0].node(r.mark())
		if !ok {
			return left
		}
		r.skip()
		left = r.over(n, left, chain(r, row[1:], part))
	}
}

// expr takes an e of chapter 8.
func (r *reader) expr() int {
	return r.within(r.anyExpr)
}

func (r *reader) anyExpr() int {
	at := r.next().At
	if r.take("yield") {
		return r.add(api.Node{Kind: api.NYield, At: at, Kids: []int{r.expr()}})
	}
	target := r.choice()
	if !isTarget(r.nodes[target].Kind) || !r.take("=") {
		return target
	}
	return r.over(api.Node{Kind: api.NSet}, target, r.expr())
}

// isTarget tells whether nodes of a kind may be set.
func isTarget(kind int) bool {
	return kind == api.NName || kind == api.NGet || kind == api.NAt
}

// choice takes a c of chapter 8.
func (r *reader) choice() int {
	first := chain(r, logics(), r.compared)
	if !r.take("?") {
		return first
	}
	yes := r.expr()
	r.want(":")
	return r.over(api.Node{Kind: api.NCond}, first, yes, r.expr())
}

// compared takes a q of chapter 8.
func (r *reader) compared() int {
	return chain(r, binaries(), r.unary)
}

// unary takes a u of chapter 8.
func (r *reader) unary() int {
	return r.within(r.anyUnary)
}

func (r *reader) anyUnary() int {
	switch r.mark() {
	case "!", "-", "typeof":
		x := r.skip()
		return r.add(api.Node{Kind: api.NUnary, Text: x.Text, At: x.At, Kids: []int{r.unary()}})
	}
	return r.within(r.primary)
}

// primary takes a p of chapter 8: what stands alone, and all that is asked of it.
func (r *reader) primary() int {
	p := r.alone()
	for {
		switch {
		case r.take("."):
			p = r.over(api.Node{Kind: api.NGet, Text: r.textOf(api.TName, api.TWord)}, p)
		case r.take("["):
			which := r.expr()
			r.want("]")
			p = r.over(api.Node{Kind: api.NAt}, p, which)
		case r.take("("):
			with := items(r, ")", r.expr)
			p = r.over(api.Node{Kind: api.NCall}, append([]int{p}, with...)...)
		default:
			return p
		}
	}
}

func (r *reader) alone() int {
	switch x := r.next(); x.Kind {
	case api.TNum:
		return r.leaf(api.Node{Kind: api.NNum, Num: x.Num})
	case api.TStr:
		return r.leaf(api.Node{Kind: api.NStr, Text: x.Text})
	case api.TName:
		return r.leaf(api.Node{Kind: api.NName, Text: x.Text})
	}
	switch r.mark() {
	case "true":
		return r.leaf(api.Node{Kind: api.NBool, Num: 1})
	case "false":
		return r.leaf(api.Node{Kind: api.NBool})
	case "null":
		return r.leaf(api.Node{Kind: api.NNull})
	case "undefined":
		return r.leaf(api.Node{Kind: api.NUndef})
	case "this":
		return r.leaf(api.Node{Kind: api.NThis})
	case "(":
		return r.inParens()
	case "[":
		return r.array()
	case "{":
		return r.object()
	case "function":
		return r.function(false)
	}
	return r.fail()
}

// leaf goes behind the one token that n is made of.
func (r *reader) leaf(n api.Node) int {
	n.At = r.skip().At
	return r.add(n)
}

// inParens takes an e that stands in `(` and `)`.
func (r *reader) inParens() int {
	r.want("(")
	kid := r.expr()
	r.want(")")
	return kid
}

func (r *reader) array() int {
	at := r.skip().At
	return r.add(api.Node{Kind: api.NArr, At: at, Kids: items(r, "]", r.expr)})
}

func (r *reader) object() int {
	n := api.Node{Kind: api.NObj, At: r.skip().At}
	n.Kids = items(r, "}", func() int {
		n.Names = append(n.Names, r.textOf(api.TName, api.TWord, api.TStr))
		r.want(":")
		return r.expr()
	})
	return r.add(n)
}
