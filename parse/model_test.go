package parse_test

import (
	"slices"
	"strconv"
	"strings"
	"testing"

	"boomerang/api"
	"boomerang/lex"
	"boomerang/parse"
)

// A second reading of 8.1, 8.2 and 8.4, by rules: all rows of parts that may stand
// next are kept side by side, and where none of them goes on no program begins.
//
// Capital letters begin parts; `@` asks something of the next token; +t and -t say
// whether what was just read may be set, and @t asks for it.
const rules = `
Program = Rows #end
Rows  = | Stmt Rows
Stmt  = Block | if ( E ) Inner Else | while ( E ) Inner | break End | continue End
Stmt  = return End | return @same E Last | throw @same E Last | try Block catch ( #name ) Block
Stmt  = let #name = E Last | const #name = E Last | function Star #name ( Names ) Block | @expr E Last
Else  = | else Inner
Inner = @inner Stmt
Block = { Rows }
End   = ; | @closed | @line
Last  = ; | @closed | @line @over
E     = yield E -t | U More Cond Set
Set   = | @t = E -t
Cond  = | ? E : E -t
More  = | Sign U -t More
Sign  = || | && | === | !== | < | <= | > | >= | + | - | * | / | %
U     = ! U -t | - U -t | typeof U -t | P
P     = Base Posts
Base  = #num -t | #str -t | #name +t | true -t | false -t | null -t | undefined -t | this -t
Base  = ( E ) | [ Es ] -t | { Pairs } -t | function Star Own ( Names ) Block -t
Posts = | . #name +t Posts | . #word +t Posts | [ E ] +t Posts | ( Es ) -t Posts
Es    = | E Es2
Es2   = | , E Es2
Pairs = | Key : E Pairs2
Pairs2 = | , Key : E Pairs2
Key   = #name | #word | #str
Star  = | *
Own   = | #name
Names = | #name Names2
Names2 = | , #name Names2
`

// readRules tells of each part what it may be.
func readRules() map[string][][]string {
	m := map[string][][]string{}
	for _, line := range strings.Split(strings.TrimSpace(rules), "\n") {
		l := strings.Fields(line)
		row := []string{}
		for _, s := range l[2:] {
			if s == "|" {
				m[l[0]] = append(m[l[0]], row)
				row = []string{}
				continue
			}
			row = append(row, s)
		}
		m[l[0]] = append(m[l[0]], row)
	}
	return m
}

// stack is what is to be read: a part, how many lie around it, and what is behind.
type stack struct {
	part  string
	depth int
	rest  *stack
}

// way is one of those that go on.
type way struct {
	todo   *stack
	target bool
}

func (w way) key() string {
	b := strconv.AppendBool(nil, w.target)
	for s := w.todo; s != nil; s = s.rest {
		b = append(append(b, ' '), s.part...)
		b = strconv.AppendInt(b, int64(s.depth), 10)
	}
	return string(b)
}

type model struct {
	rules map[string][][]string
}

// fits tells whether a token is what a rule asks for.
func fits(part string, x api.Token) bool {
	switch part {
	case "#num":
		return x.Kind == api.TNum
	case "#str":
		return x.Kind == api.TStr
	case "#name":
		return x.Kind == api.TName
	case "#word":
		return x.Kind == api.TWord
	case "#end":
		return x.Kind == api.TEnd
	}
	return (x.Kind == api.TWord || x.Kind == api.TSign) && x.Text == part
}

// asks tells whether what a rule asks of the next token is so.
func asks(part string, target bool, x api.Token) bool {
	one := func(marks ...string) bool {
		return slices.ContainsFunc(marks, func(s string) bool { return fits(s, x) })
	}
	switch part {
	case "@same":
		return !x.Line
	case "@line":
		return x.Line
	case "@over":
		return !one("(", "[", "-")
	case "@closed":
		return one("}", "#end")
	case "@inner":
		return !one("let", "const", "function")
	case "@expr":
		return !one("{", "function")
	case "@t":
		return target
	}
	panic(part)
}

// goOn tells the ways behind x.
func (m model) goOn(w way, x api.Token, found map[string]way) {
	if w.todo == nil {
		return
	}
	s := *w.todo
	if s.part == "+t" || s.part == "-t" {
		m.goOn(way{s.rest, s.part == "+t"}, x, found)
		return
	}
	if s.part[0] == '@' {
		if asks(s.part, w.target, x) {
			m.goOn(way{s.rest, w.target}, x, found)
		}
		return
	}
	if s.part[0] < 'A' || s.part[0] > 'Z' {
		if fits(s.part, x) {
			behind := way{s.rest, w.target}
			found[behind.key()] = behind
		}
		return
	}
	depth := s.depth
	if slices.Contains([]string{"Stmt", "E", "U", "P"}, s.part) {
		depth++
	}
	if depth > 40 {
		return
	}
	for _, row := range m.rules[s.part] {
		todo := s.rest
		for _, part := range slices.Backward(row) {
			todo = &stack{part, depth, todo}
		}
		m.goOn(way{todo, w.target}, x, found)
	}
}

// stop tells where no program begins any more; false: src is a program.
func (m model) stop(src string) (at int, stops bool) {
	ways := map[string]way{"": {todo: &stack{part: "Program"}}}
	for _, x := range lex.All(src) {
		found := map[string]way{}
		for _, w := range ways {
			m.goOn(w, x, found)
		}
		if len(found) == 0 {
			return x.At, true
		}
		ways = found
	}
	return 0, false
}

// wantModel holds Parse beside the rules, and tells what the rules say.
func wantModel(t *testing.T, m model, src string) (at int, stops bool) {
	t.Helper()
	at, stops = m.stop(src)
	l, gotAt, ok := parse.Parse(src)
	if ok == stops || gotAt != at {
		t.Fatalf("8.4: Parse of %q: at %d, %v; want at %d, %v", src, gotAt, ok, at, !stops)
	}
	if !ok && len(l) != 0 {
		t.Fatalf("R4: Parse of %q: nodes beside a false", src)
	}
	if ok {
		wantOrder(t, src, l)
		for place := range l {
			wantForm(t, src, l, place)
		}
	}
	return at, stops
}

// All programs of few tokens, as far as programs go on.
func TestShortProgramsBesideAModel(t *testing.T) {
	m := model{readRules()}
	tokens := append(words(), strings.Fields("{ } ( ) [ ] ; , . ? : = === !== < + - * ! && || a 1 \"s\" @")...)
	tried, whole := 0, 0
	var grow func(src string, more int)
	grow = func(src string, more int) {
		tried++
		at, stops := wantModel(t, m, src)
		if !stops {
			whole++
		}
		if more == 0 || stops && at < len(src) {
			return
		}
		for _, x := range tokens {
			grow(src+" "+x, more-1)
			if src != "" {
				grow(src+"\n"+x, more-1)
			}
		}
	}
	grow("", 3)
	if tried < 10000 || whole < 1000 {
		t.Errorf("8.4: few programs: %d of %d", whole, tried)
	}
}

// Programs of few kinds of tokens, somewhat longer ones.
func TestLongerProgramsBesideAModel(t *testing.T) {
	m := model{readRules()}
	for _, tokens := range []string{"a ( ) = . [ ]", "a ; } { return", "if ( a ) else ;", "function f ( ) { }", "a ? : = -", "yield a = ( )", "throw a { } : ,", "[ ] , a ( )", "while ( ) let a = ;"} {
		var grow func(src string, more int)
		grow = func(src string, more int) {
			at, stops := wantModel(t, m, src)
			if more == 0 || stops && at < len(src) {
				return
			}
			for _, x := range strings.Fields(tokens) {
				grow(src+" "+x, more-1)
				grow(src+"\n"+x, more-1)
			}
		}
		grow("", 5)
	}
}
