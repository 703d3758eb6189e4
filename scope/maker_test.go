package scope_test

import (
	"fmt"
	"slices"
	"strings"
	"testing"

	"boomerang/api"
)

// renamed tells nodes in which each name is called after its place.
func renamed(r *reading) []api.Node {
	l := slices.Clone(r.nodes)
	called := func(p place) string { return fmt.Sprintf("v%d_%d", p.node, p.slot) }
	for at, n := range r.nodes {
		switch n.Kind {
		case api.NName, api.NLet, api.NConst:
			l[at].Text = called(r.places[at])
		case api.NDef:
			l[n.Kids[0]].Text = called(r.places[at])
		case api.NTry:
			l[at].Text = called(place{n.Kids[1], 0})
		case api.NFun:
			l[at].Names = nil
			for _, name := range n.Names {
				l[at].Names = append(l[at].Names, called(place{at, slices.Index(n.Names, name)}))
			}
		}
	}
	return l
}

// maker writes programs of few names, by numbers that hang on the first alone.
type maker struct {
	seed uint32
	src  strings.Builder
}

// turn tells a number from 0 up to below.
func (m *maker) turn(below int) int {
	m.seed = m.seed*1664525 + 1013904223
	return int(m.seed>>16) % below
}

func (m *maker) put(texts ...string) {
	for _, s := range texts {
		m.src.WriteString(s)
	}
}

func (m *maker) name() string {
	return strings.Fields("a b c d e")[m.turn(5)]
}

func (m *maker) statements(fuel int) {
	for range m.turn(5) {
		m.statement(fuel, true)
	}
}

func (m *maker) block(fuel int) {
	m.put("{")
	m.statements(fuel)
	m.put("}")
}

// statement writes one; names: it may make a name.
func (m *maker) statement(fuel int, names bool) {
	if names && m.turn(3) == 0 {
		m.naming(fuel)
		return
	}
	if fuel <= 0 {
		m.put(m.name(), ";")
		return
	}
	switch m.turn(8) {
	case 0, 1:
		m.block(fuel - 1)
	case 2:
		m.put("if(")
		m.expr(fuel - 1)
		m.put(")")
		m.statement(fuel-1, false)
		if m.turn(2) == 0 {
			m.put("else ")
			m.statement(fuel-1, false)
		}
	case 3:
		m.put("while(")
		m.expr(fuel - 1)
		m.put(")")
		m.statement(fuel-1, false)
	case 4, 5:
		m.put("try")
		m.block(fuel - 1)
		m.put("catch(", m.name(), ")")
		m.block(fuel - 1)
	case 6:
		m.put("return(")
		m.expr(fuel - 1)
		m.put(");")
	default:
		m.put("(")
		m.expr(fuel - 1)
		m.put(");")
	}
}

func (m *maker) naming(fuel int) {
	switch m.turn(3) {
	case 0:
		m.put("let ", m.name(), "=")
		m.expr(fuel - 1)
		m.put(";")
	case 1:
		m.put("const ", m.name(), "=")
		m.expr(fuel - 1)
		m.put(";")
	default:
		m.function(m.name(), fuel-1)
	}
}

func (m *maker) function(name string, fuel int) {
	m.put("function")
	if m.turn(4) == 0 {
		m.put("*")
	}
	m.put(" ", name, "(")
	for i := range m.turn(4) {
		if i > 0 {
			m.put(",")
		}
		m.put(m.name())
	}
	m.put(")")
	m.block(fuel)
}

func (m *maker) expr(fuel int) {
	if fuel <= 0 {
		m.put(m.name())
		return
	}
	switch m.turn(7) {
	case 0, 1:
		m.function([]string{"", m.name()}[m.turn(2)], fuel-1)
	case 2:
		m.put(m.name(), "=")
		m.expr(fuel - 1)
	case 3:
		m.put("{a:")
		m.expr(fuel - 1)
		m.put(",b:", m.name(), "}")
	case 4:
		m.put("[", m.name(), ",")
		m.expr(fuel - 1)
		m.put("]")
	case 5:
		m.put(m.name(), "+", m.name(), "(", m.name(), ".a)")
	default:
		m.put(m.name(), "?", m.name(), ":")
		m.expr(fuel - 1)
	}
}

func TestMadeProgramsBesideAModel(t *testing.T) {
	held, deepest, doubles, nowhere := 0, 0, 0, 0
	for seed := range uint32(6000) {
		m := &maker{seed: seed * 7919}
		m.statements(2 + m.turn(4))
		m.statements(3)
		src := m.src.String()
		if len(src) > api.MaxText {
			continue
		}
		r := wantModel(t, src)
		wantRenamed(t, src, r)
		held++
		used := map[place]bool{}
		for at, spot := range r.spots {
			deepest = max(deepest, spot.Depth)
			switch r.nodes[at].Kind {
			case api.NName:
				nowhere += min(0, spot.Depth) * -1
			case api.NLet, api.NConst, api.NDef:
				if used[r.places[at]] {
					doubles++
				}
				used[r.places[at]] = true
			}
		}
	}
	if held < 4000 || deepest < 4 || doubles < 500 || nowhere < 5000 {
		t.Errorf("10.2: few programs, or few scopes left, or few names: %d, %d, %d, %d", held, deepest, doubles, nowhere)
	}
}
