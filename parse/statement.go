package parse

import "boomerang/api"

// statements takes as many as stand ahead of `}`, or of all's end.
func (r *reader) statements() (kids []int) {
	for !r.failed && !r.closes() {
		kids = append(kids, r.statement())
	}
	return kids
}

// closes tells whether what stands next ends a row of statements.
func (r *reader) closes() bool {
	return r.mark() == "}" || r.next().Kind == api.TEnd
}

func (r *reader) statement() int {
	return r.within(r.anyStatement)
}

func (r *reader) anyStatement() int {
	switch r.mark() {
	case "{":
		return r.block()
	case "if":
		return r.ifStatement()
	case "while":
		return r.whileStatement()
	case "break":
		return r.jump(api.NBreak)
	case "continue":
		return r.jump(api.NNext)
	case "return":
		return r.returnStatement()
	case "throw":
		return r.throwStatement()
	case "try":
		return r.tryStatement()
	case "let":
		return r.binding(api.NLet)
	case "const":
		return r.binding(api.NConst)
	case "function":
		return r.definition()
	}
	return r.exprStatement()
}

// end goes behind a statement's end.
func (r *reader) end() {
	if !r.take(";") && !r.closes() && !r.next().Line {
		r.fail()
	}
}

// block takes one. Only where it is a statement of its own does it lie one deeper,
// so that what calls it counts.
func (r *reader) block() int {
	at := r.next().At
	return r.add(api.Node{Kind: api.NBlock, At: at, Kids: r.body()})
}

// body takes the statements of a block.
func (r *reader) body() []int {
	r.want("{")
	kids := r.statements()
	r.want("}")
	return kids
}

func (r *reader) ifStatement() int {
	at := r.skip().At
	kids := []int{r.inParens(), r.inner()}
	if r.take("else") {
		kids = append(kids, r.inner())
	}
	return r.add(api.Node{Kind: api.NIf, At: at, Kids: kids})
}

func (r *reader) whileStatement() int {
	at := r.skip().At
	return r.add(api.Node{Kind: api.NWhile, At: at, Kids: []int{r.inParens(), r.inner()}})
}

// inner takes the statement of an if, an else or a while. It has no scope of its
// own, so that it may make no name.
func (r *reader) inner() int {
	switch r.mark() {
	case "let", "const", "function":
		return r.fail()
	}
	return r.statement()
}

func (r *reader) jump(kind int) int {
	at := r.skip().At
	r.end()
	return r.add(api.Node{Kind: kind, At: at})
}

func (r *reader) returnStatement() int {
	n := api.Node{Kind: api.NReturn, At: r.skip().At}
	if !r.next().Line && r.mark() != ";" && !r.closes() {
		n.Kids = []int{r.expr()}
	}
	r.end()
	return r.add(n)
}

func (r *reader) throwStatement() int {
	at := r.skip().At
	if r.next().Line {
		return r.fail()
	}
	kids := []int{r.expr()}
	r.end()
	return r.add(api.Node{Kind: api.NThrow, At: at, Kids: kids})
}

func (r *reader) tryStatement() int {
	n := api.Node{Kind: api.NTry, At: r.skip().At}
	first := r.block()
	r.want("catch")
	r.want("(")
	n.Text = r.name()
	r.want(")")
	n.Kids = []int{first, r.block()}
	return r.add(n)
}

// binding takes a let or a const.
func (r *reader) binding(kind int) int {
	n := api.Node{Kind: kind, At: r.skip().At}
	n.Text = r.name()
	r.want("=")
	n.Kids = []int{r.expr()}
	r.end()
	return r.add(n)
}

func (r *reader) definition() int {
	at := r.next().At
	return r.add(api.Node{Kind: api.NDef, At: at, Kids: []int{r.function(true)}})
}

// function takes one; a named one must have its name.
func (r *reader) function(named bool) int {
	n := api.Node{Kind: api.NFun, At: r.skip().At}
	if r.take("*") {
		n.Num = 1
	}
	if named || r.next().Kind == api.TName {
		n.Text = r.name()
	}
	r.want("(")
	n.Names = items(r, ")", r.name)
	n.Kids = r.body()
	return r.add(n)
}

func (r *reader) exprStatement() int {
	kid := r.expr()
	r.end()
	return r.over(api.Node{Kind: api.NExpr}, kid)
}
