package early_test

import (
	"strings"
	"testing"

	"boomerang/api"
)

// maker writes programs of few names, by numbers that hang on the first alone. Most
// of what it writes is right; now and then it does not ask.
type maker struct {
	seed      uint32
	care      int // the greater, the less is wrong
	src       strings.Builder
	function  bool
	generator bool
	loop      bool
}

// turn tells a number from 0 up to below.
func (m *maker) turn(below int) int {
	m.seed = m.seed*1664525 + 1013904223
	return int(m.seed>>16) % below
}

// may tells whether what is right, or whatever, may stand next.
func (m *maker) may(right bool) bool {
	return right || m.turn(m.care) == 0
}

func (m *maker) put(texts ...string) {
	for _, s := range texts {
		m.src.WriteString(s)
	}
}

func (m *maker) name() string {
	return strings.Fields("a b c d e f g h")[m.turn(8)]
}

func (m *maker) statements(fuel, most int) {
	for range m.turn(most + 1) {
		m.statement(fuel, true)
	}
}

func (m *maker) block(fuel int) {
	m.put("{")
	m.statements(fuel, 3)
	m.put("}")
}

// statement writes one; names: it may make a name.
func (m *maker) statement(fuel int, names bool) {
	if names && m.turn(3) == 0 {
		m.naming(fuel)
		return
	}
	if fuel <= 0 || m.turn(3) == 0 {
		m.leaf()
		return
	}
	switch m.turn(6) {
	case 0:
		m.block(fuel - 1)
	case 1:
		m.put("if(")
		m.expr(fuel - 1)
		m.put(")")
		m.statement(fuel-1, false)
		m.put("else ")
		m.statement(fuel-1, false)
	case 2:
		m.put("while(")
		m.expr(fuel - 1)
		m.put(")")
		was := m.loop
		m.loop = true
		m.statement(fuel-1, false)
		m.loop = was
	case 3:
		m.put("try")
		m.block(fuel - 1)
		m.put("catch(", m.name(), ")")
		m.block(fuel - 1)
	default:
		m.put("(")
		m.expr(fuel - 1)
		m.put(");")
	}
}

// leaf writes a statement within which no other one lies.
func (m *maker) leaf() {
	switch n := m.turn(5); {
	case n == 0 && m.may(m.loop):
		m.put([]string{"break;", "continue;"}[m.turn(2)])
	case n == 1 && m.may(m.function):
		m.put([]string{"return;", "return 1;"}[m.turn(2)])
	case n == 2 && m.may(m.generator):
		m.put("yield ", m.name(), ";")
	case n == 3 && m.turn(2) == 0:
		m.put(m.name(), "=1;")
	default:
		m.put(m.name(), ";")
	}
}

func (m *maker) naming(fuel int) {
	switch m.turn(4) {
	case 0, 1:
		m.put("let ", m.name(), "=")
		m.expr(fuel - 1)
		m.put(";")
	case 2:
		m.put("const ", m.name(), "=")
		m.expr(fuel - 1)
		m.put(";")
	default:
		m.functionOf(m.name(), fuel-1)
	}
}

func (m *maker) functionOf(name string, fuel int) {
	function, generator, loop := m.function, m.generator, m.loop
	m.function, m.generator, m.loop = true, m.turn(2) == 0, false
	m.put("function")
	if m.generator {
		m.put("*")
	}
	m.put(" ", name, "(", strings.Join(m.parameters(), ","), ")")
	m.block(fuel)
	m.function, m.generator, m.loop = function, generator, loop
}

func (m *maker) parameters() (l []string) {
	for range m.turn(4) {
		name := m.name()
		for _, has := range l {
			if has == name && !m.may(false) {
				return l
			}
		}
		l = append(l, name)
	}
	return l
}

func (m *maker) expr(fuel int) {
	if fuel <= 0 {
		m.put(m.name())
		return
	}
	switch n := m.turn(8); {
	case n == 0 || n == 1:
		m.functionOf([]string{"", m.name()}[m.turn(2)], fuel-1)
	case n == 2:
		m.put(m.name(), []string{"=", ".a=", "[0]="}[m.turn(3)])
		m.expr(fuel - 1)
	case n == 3:
		m.put("{a:")
		m.expr(fuel - 1)
		m.put(",b:", m.name(), "}")
	case n == 4:
		m.put("[", m.name(), ",")
		m.expr(fuel - 1)
		m.put("]")
	case n == 5 && m.may(m.generator):
		m.put("yield ")
		m.expr(fuel - 1)
	default:
		m.put(m.name(), "?", m.name(), ":")
		m.expr(fuel - 1)
	}
}

func TestMadeProgramsBesideAModel(t *testing.T) {
	held, right, many := 0, 0, 0
	var least [kinds]int
	for seed := range uint32(20000) {
		m := &maker{seed: seed * 7919, care: 1 + int(seed%7)*5}
		if m.turn(2) == 0 {
			m.put("let a=1;const b=1;function c(){}let d=1;const e=1;")
		}
		for range 3 {
			m.put("{")
			m.statements(1+m.turn(4), 4)
			m.put("}")
		}
		src := m.src.String()
		if len(src) > api.MaxText {
			continue
		}
		held++
		faults := wantModel(t, src)
		if len(faults) == 0 {
			right++
			continue
		}
		least[faults[0].kind]++
		if faults[0].at < faults[len(faults)-1].at {
			many++
		}
	}
	t.Logf("%d programs, %d right, with more than one fault %d, the least of each kind: %v", held, right, many, least)
	if held < 15000 || right < 3000 || many < 3000 {
		t.Errorf("11.1: few programs, or few that are right, or few with more than one fault: %d, %d, %d", held, right, many)
	}
	for kind, count := range least {
		if count < 200 {
			t.Errorf("11.1: few programs with the least fault of kind %d: %d", kind, count)
		}
	}
}
