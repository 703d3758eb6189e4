package parse_test

import (
	"slices"
	"strconv"
	"strings"
	"testing"

	"boomerang/api"
	"boomerang/parse"
)

// turning tells numbers that hang on the first one alone.
func turning(seed uint32) func(below int) int {
	return func(below int) int {
		seed = seed*1664525 + 1013904223
		return int(seed>>16) % below
	}
}

// What is owed ahead of the next token.
const (
	nothing = iota
	anEnd   // of a statement that ends with a word
	anEndE  // of one that ends with an e, which would take more
	oneLine // the next token may not stand on another line
)

// maker writes a program, and makes its nodes side by side with it.
type maker struct {
	turn   func(below int) int
	src    strings.Builder
	pieces []string // tokens, each with what stands ahead of it
	last   string
	begin  int // the token with which an NExpr begins
	owed   int
	nodes  []api.Node
}

// token writes one, behind blanks, and tells where it begins.
func (m *maker) token(s string) int {
	closed := s == "}" || s == ""
	goesOn := s == "(" || s == "[" || s == "-"
	line := false
	if m.owed == anEnd || m.owed == anEndE {
		// What goes on with an e would do so on the next line, too.
		byLine := m.turn(2) == 0 && !(goesOn && m.owed == anEndE)
		m.owed = nothing
		if byLine {
			line = !closed
		} else {
			m.token(";")
		}
	}
	gap := m.gap(s, line)
	m.owed = nothing
	m.src.WriteString(gap)
	at := m.src.Len()
	m.src.WriteString(s)
	m.pieces = append(m.pieces, gap+s)
	m.last = s
	return at
}

// gap tells what stands ahead of a token.
func (m *maker) gap(s string, line bool) string {
	blanks := []string{" ", "  ", "\t", "\r", " \t "}
	lines := []string{"\n", " \n ", "\n\n", " // x ; }\n", "\r\n", " //\n"}
	switch {
	case line:
		return lines[m.turn(len(lines))]
	case m.owed == oneLine:
		return blanks[m.turn(len(blanks))]
	case m.turn(8) == 0:
		return lines[m.turn(len(lines))]
	case m.turn(2) == 0 && (isEdge(s) || isEdge(m.last)):
		return ""
	}
	return blanks[m.turn(len(blanks))]
}

// isEdge tells whether a token may stand beside any other without a blank.
func isEdge(s string) bool {
	return slices.Contains(strings.Fields("( ) [ ] { } ; , :"), s) || s == ""
}

func (m *maker) add(n api.Node) int {
	m.nodes = append(m.nodes, n)
	return len(m.nodes) - 1
}

// over adds a node that begins where its first kid does.
func (m *maker) over(n api.Node, kids ...int) int {
	n.Kids, n.At = kids, m.nodes[kids[0]].At
	return m.add(n)
}

func (m *maker) pick(s string) string {
	l := strings.Fields(s)
	return l[m.turn(len(l))]
}

func (m *maker) name() string {
	s := m.pick("a b c $ _x letter iff a1")
	m.token(s)
	return s
}

func (m *maker) program() {
	kids := m.rows(6, 4)
	m.token("")
	m.add(api.Node{Kind: api.NAll, Kids: kids})
}

func (m *maker) rows(fuel, below int) (kids []int) {
	for range m.turn(below) {
		kids = append(kids, m.statement(fuel, place{names: true}))
	}
	return kids
}

// body writes a block's statements, and tells where it begins.
func (m *maker) body(fuel int) (at int, kids []int) {
	at = m.token("{")
	kids = m.rows(fuel, 4)
	m.token("}")
	return at, kids
}

func (m *maker) block(fuel int) int {
	at, kids := m.body(fuel)
	return m.add(api.Node{Kind: api.NBlock, At: at, Kids: kids})
}

// place says what a statement may be.
type place struct {
	names bool // it may make a name
	whole bool // it may not end with an if that would take an else behind it
}

func (m *maker) statement(fuel int, p place) int {
	if fuel <= 1 {
		return m.exprStatement(0)
	}
	switch m.turn(14) {
	case 0:
		return m.block(fuel - 1)
	case 1, 2:
		return m.ifStatement(fuel, p)
	case 3:
		at := m.token("while")
		return m.add(api.Node{Kind: api.NWhile, At: at, Kids: []int{m.condition(fuel - 1), m.statement(fuel-1, place{whole: p.whole})}})
	case 4:
		return m.jump("break", api.NBreak)
	case 5:
		return m.jump("continue", api.NNext)
	case 6:
		return m.jump("return", api.NReturn)
	case 7:
		return m.asking("return", api.NReturn, fuel-1)
	case 8:
		return m.asking("throw", api.NThrow, fuel-1)
	case 9:
		return m.tryStatement(fuel)
	}
	if p.names && m.turn(2) == 0 {
		return m.naming(fuel)
	}
	return m.exprStatement(fuel - 1)
}

func (m *maker) condition(fuel int) int {
	m.token("(")
	kid := m.expr(fuel, 0)
	m.token(")")
	return kid
}

func (m *maker) ifStatement(fuel int, p place) int {
	n := api.Node{Kind: api.NIf, At: m.token("if")}
	n.Kids = []int{m.condition(fuel - 1)}
	if !p.whole && m.turn(2) == 0 {
		n.Kids = append(n.Kids, m.statement(fuel-1, place{}))
		return m.add(n)
	}
	n.Kids = append(n.Kids, m.statement(fuel-1, place{whole: true}))
	m.token("else")
	n.Kids = append(n.Kids, m.statement(fuel-1, place{whole: p.whole}))
	return m.add(n)
}

func (m *maker) jump(word string, kind int) int {
	n := api.Node{Kind: kind, At: m.token(word)}
	m.owed = anEnd
	return m.add(n)
}

// asking writes a return or a throw with its e, which begins on the same line.
func (m *maker) asking(word string, kind, fuel int) int {
	at := m.token(word)
	m.owed = oneLine
	kid := m.expr(fuel, 0)
	m.owed = anEndE
	return m.add(api.Node{Kind: kind, At: at, Kids: []int{kid}})
}

func (m *maker) tryStatement(fuel int) int {
	n := api.Node{Kind: api.NTry, At: m.token("try")}
	first := m.block(fuel - 1)
	m.token("catch")
	m.token("(")
	n.Text = m.name()
	m.token(")")
	n.Kids = []int{first, m.block(fuel - 1)}
	return m.add(n)
}

// naming writes a let, a const or a function.
func (m *maker) naming(fuel int) int {
	var n api.Node
	switch m.turn(3) {
	case 0:
		f := m.function(fuel, true)
		return m.over(api.Node{Kind: api.NDef}, f)
	case 1:
		n.Kind, n.At = api.NLet, m.token("let")
	default:
		n.Kind, n.At = api.NConst, m.token("const")
	}
	n.Text = m.name()
	m.token("=")
	n.Kids = []int{m.expr(fuel-1, 0)}
	m.owed = anEndE
	return m.add(n)
}

func (m *maker) function(fuel int, named bool) int {
	n := api.Node{Kind: api.NFun, At: m.token("function")}
	if m.turn(3) == 0 {
		m.token("*")
		n.Num = 1
	}
	if named || m.turn(2) == 0 {
		n.Text = m.name()
	}
	m.token("(")
	for i := range m.turn(4) {
		if i > 0 {
			m.token(",")
		}
		n.Names = append(n.Names, m.name())
	}
	m.token(")")
	_, n.Kids = m.body(fuel - 1)
	return m.add(n)
}

func (m *maker) exprStatement(fuel int) int {
	m.settle()
	m.begin = len(m.pieces)
	kid := m.expr(fuel, 0)
	m.owed = anEndE
	return m.over(api.Node{Kind: api.NExpr}, kid)
}

// settle pays an end by `;` now, so that the next token is the one that is written
// next.
func (m *maker) settle() {
	if m.owed == anEnd || m.owed == anEndE {
		if m.turn(2) == 0 {
			m.owed = nothing
			m.token(";")
		}
	}
}

// Levels of 8.2: an e is of level 0, a c of 1, an o of 2, up to a u of 8, a p of 9.
const (
	levelC = 1
	levelO = 2
	levelU = 8
	levelP = 9
)

// expr writes an e of a level, or of one that binds more; others stand in parens.
func (m *maker) expr(fuel, level int) int {
	if fuel <= 0 {
		return m.leaf()
	}
	if m.turn(12) == 0 {
		return m.condition(fuel - 1)
	}
	kind, binds := m.kind()
	if binds < level {
		return m.inParens(func() int { return m.some(kind, fuel-2) }, fuel)
	}
	return m.some(kind, fuel-1)
}

// inParens writes a part in them, if there is room for it.
func (m *maker) inParens(part func() int, fuel int) int {
	if fuel <= 2 {
		return m.leaf()
	}
	m.token("(")
	kid := part()
	m.token(")")
	return kid
}

// kind tells one of e's, and its level.
func (m *maker) kind() (kind, level int) {
	l := []struct{ kind, level int }{
		{api.NYield, 0}, {api.NSet, 0}, {api.NSet, 0}, {api.NCond, levelC}, {api.NOr, levelO}, {api.NAnd, 3},
		{api.NBinary, 4}, {api.NBinary, 5}, {api.NBinary, 6}, {api.NBinary, 7}, {api.NUnary, levelU},
		{api.NGet, levelP}, {api.NAt, levelP}, {api.NCall, levelP}, {api.NArr, levelP}, {api.NObj, levelP}, {api.NFun, levelP}, {api.NName, levelP},
	}
	x := l[m.turn(len(l))]
	if x.kind == api.NBinary {
		return -x.level, x.level
	}
	return x.kind, x.level
}

// some writes an e of a kind; those below 0 are levels of NBinary.
func (m *maker) some(kind, fuel int) int {
	switch kind {
	case api.NYield:
		at := m.token("yield")
		return m.add(api.Node{Kind: kind, At: at, Kids: []int{m.expr(fuel, 0)}})
	case api.NSet:
		target := m.target(fuel)
		m.token("=")
		return m.over(api.Node{Kind: kind}, target, m.expr(fuel, 0))
	case api.NCond:
		first := m.expr(fuel, levelO)
		m.token("?")
		yes := m.expr(fuel, 0)
		m.token(":")
		return m.over(api.Node{Kind: kind}, first, yes, m.expr(fuel, 0))
	case api.NOr:
		return m.pair(api.Node{Kind: kind}, "||", fuel, levelO)
	case api.NAnd:
		return m.pair(api.Node{Kind: kind}, "&&", fuel, 3)
	case api.NUnary:
		n := api.Node{Kind: kind, Text: m.pick("! - typeof")}
		n.At = m.token(n.Text)
		n.Kids = []int{m.expr(fuel, levelU)}
		return m.add(n)
	case api.NGet, api.NAt, api.NCall:
		return m.behind(kind, m.expr(fuel, levelP), fuel)
	case api.NArr:
		at := m.token("[")
		return m.add(api.Node{Kind: kind, At: at, Kids: m.list("]", fuel)})
	case api.NObj, api.NFun:
		return m.apart(kind, fuel)
	case api.NName:
		return m.leaf()
	}
	sign := m.pick([]string{"=== !==", "< <= > >=", "+ -", "* / %"}[-kind-4])
	return m.pair(api.Node{Kind: api.NBinary, Text: sign}, sign, fuel, -kind)
}

// pair writes two with a sign between that binds from the left.
func (m *maker) pair(n api.Node, sign string, fuel, level int) int {
	left := m.expr(fuel, level)
	m.token(sign)
	return m.over(n, left, m.expr(fuel, level+1))
}

// target writes what may be set, perhaps in parens.
func (m *maker) target(fuel int) int {
	if fuel > 2 && m.turn(6) == 0 {
		return m.inParens(func() int { return m.target(fuel - 2) }, fuel)
	}
	if fuel <= 0 || m.turn(2) == 0 {
		n := api.Node{Kind: api.NName, Text: m.pick("a b c")}
		n.At = m.token(n.Text)
		return m.add(n)
	}
	return m.behind(api.NGet+m.turn(2), m.expr(fuel-1, levelP), fuel-1)
}

// behind writes what is asked of a p.
func (m *maker) behind(kind, of, fuel int) int {
	switch kind {
	case api.NGet:
		m.token(".")
		name := m.pick("a b if yield typeof")
		m.token(name)
		return m.over(api.Node{Kind: kind, Text: name}, of)
	case api.NAt:
		m.token("[")
		which := m.expr(fuel, 0)
		m.token("]")
		return m.over(api.Node{Kind: kind}, of, which)
	}
	m.token("(")
	return m.over(api.Node{Kind: kind}, append([]int{of}, m.list(")", fuel)...)...)
}

// list writes e's with `,` between, and what is behind them.
func (m *maker) list(behind string, fuel int) (kids []int) {
	for i := range m.turn(4) {
		if i > 0 {
			m.token(",")
		}
		kids = append(kids, m.expr(fuel, 0))
	}
	m.token(behind)
	return kids
}

// apart writes an object or a function, in parens where a statement would be
// another with it.
func (m *maker) apart(kind, fuel int) int {
	part := func() int {
		if kind == api.NFun {
			return m.function(fuel, false)
		}
		return m.object(fuel)
	}
	if m.begin == len(m.pieces) {
		return m.inParens(part, 3)
	}
	return part()
}

func (m *maker) object(fuel int) int {
	n := api.Node{Kind: api.NObj, At: m.token("{")}
	for i := range m.turn(4) {
		if i > 0 {
			m.token(",")
		}
		name := m.pick(`a b if true "a" "let"`)
		m.token(name)
		n.Names = append(n.Names, strings.Trim(name, `"`))
		m.token(":")
		n.Kids = append(n.Kids, m.expr(fuel, 0))
	}
	m.token("}")
	return m.add(n)
}

func (m *maker) leaf() int {
	l := []struct {
		src string
		n   api.Node
	}{
		{"true", api.Node{Kind: api.NBool, Num: 1}}, {"false", api.Node{Kind: api.NBool}}, {"null", api.Node{Kind: api.NNull}},
		{"undefined", api.Node{Kind: api.NUndef}}, {"this", api.Node{Kind: api.NThis}}, {`"a b"`, api.Node{Kind: api.NStr, Text: "a b"}},
		{`"\n\""`, api.Node{Kind: api.NStr, Text: "\n\""}}, {"a", api.Node{Kind: api.NName, Text: "a"}}, {"ifs", api.Node{Kind: api.NName, Text: "ifs"}},
	}
	x := l[m.turn(len(l))]
	if m.turn(4) == 0 {
		x.n = api.Node{Kind: api.NNum, Num: m.turn(1000)}
		x.src = strconv.Itoa(x.n.Num)
	}
	x.n.At = m.token(x.src)
	return m.add(x.n)
}

// made tells a maker that has written a program.
func made(seed uint32) *maker {
	m := &maker{turn: turning(seed), begin: -1}
	m.program()
	return m
}

func TestMadeProgramsHaveTheirTrees(t *testing.T) {
	seen := map[int]int{}
	longest := 0
	for seed := range uint32(6000) {
		m := made(seed * 7919)
		src := m.src.String()
		if len(src) > api.MaxText {
			continue
		}
		l, at, ok := parse.Parse(src)
		if !ok {
			t.Fatalf("8.4: Parse of %q: at %d, false", src, at)
		}
		if !sameNodes(l, m.nodes) {
			t.Fatalf("8.3: Parse of %q:\n got %s\nwant %s", src, told(l, len(l)-1), told(m.nodes, len(m.nodes)-1))
		}
		longest = max(longest, len(l))
		for _, n := range l {
			seen[n.Kind]++
		}
	}
	if len(seen) != api.NAll || longest < 100 {
		t.Errorf("8.3: few kinds of nodes, or few nodes: %v, %d", seen, longest)
	}
}

// Programs of which a token is taken out, turned, or put in.
func TestSpoiltProgramsBesideAModel(t *testing.T) {
	m := model{readRules()}
	tokens := append(words(), strings.Fields("{ } ( ) [ ] ; , . ? : = === !== < + - * ! && || a 1 \"s\" @ function ( ) =")...)
	wrong, right := 0, 0
	for seed := range uint32(1500) {
		x := made(seed*104729 + 1)
		if x.src.Len() > 600 {
			continue
		}
		for range 4 {
			pieces := slices.Clone(x.pieces)
			i := x.turn(len(pieces))
			switch x.turn(4) {
			case 0:
				pieces[i] = ""
			case 1:
				pieces[i] = " " + x.pick(strings.Join(tokens, " ")) + " "
			case 2:
				pieces[i] = " " + x.pick(strings.Join(tokens, " ")) + " " + pieces[i]
			default:
				j := x.turn(len(pieces))
				pieces[i], pieces[j] = pieces[j], pieces[i]
			}
			if _, stops := wantModel(t, m, strings.Join(pieces, "")); stops {
				wrong++
			} else {
				right++
			}
		}
	}
	if wrong < 1000 || right < 300 {
		t.Errorf("8.4: few of a kind: %d wrong, %d right", wrong, right)
	}
}
