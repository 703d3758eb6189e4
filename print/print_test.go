package print_test

import (
	"reflect"
	"slices"
	"strings"
	"testing"

	"boomerang/api"
	"boomerang/lex"
	"boomerang/parse"
	"boomerang/print"
)

// parsed tells the nodes of a program that a test has written.
func parsed(t *testing.T, src string) []api.Node {
	t.Helper()
	l, at, ok := parse.Parse(src)
	if !ok {
		t.Fatalf("the test's own program %.80q: at %d, false", src, at)
	}
	return l
}

// copied tells nodes that share nothing with others.
func copied(l []api.Node) []api.Node {
	l = slices.Clone(l)
	for i := range l {
		l[i].Names, l[i].Kids = slices.Clone(l[i].Names), slices.Clone(l[i].Kids)
	}
	return l
}

// wantPrint holds what Print tells of a program's tree.
func wantPrint(t *testing.T, src, want string) {
	t.Helper()
	wantText(t, parsed(t, src), want)
}

// wantText holds what Print tells of nodes, and all that is so of what it tells.
func wantText(t *testing.T, l []api.Node, want string) {
	t.Helper()
	wantAlone(t, l, want)
	wantNoneIdle(t, l, want)
}

// wantAlone holds what Print tells of nodes, and that it leads back to them.
func wantAlone(t *testing.T, l []api.Node, want string) {
	t.Helper()
	was := copied(l)
	got := print.Print(l)
	if got != want {
		t.Errorf("9.1: Print:\n got %q\nwant %q", got, want)
	}
	if !reflect.DeepEqual(l, was) {
		t.Errorf("R3: Print of %.80q turned what it was handed", got)
	}
	if again := print.Print(l); again != got {
		t.Errorf("R1: Print of %.80q tells another text the second time: %.80q", got, again)
	}
	wantBack(t, l, got)
}

// wantBack holds that Parse of what was printed tells the same tree, and Print of
// that the same text.
func wantBack(t *testing.T, l []api.Node, src string) {
	t.Helper()
	if len(src) > api.MaxText {
		return
	}
	m, at, ok := parse.Parse(src)
	if !ok {
		t.Errorf("9.3: Parse of %q: at %d, false", src, at)
		return
	}
	if !alike(l, m) || !print.Same(l, m) || !print.Same(m, l) {
		t.Errorf("9.3: Parse of %q has another tree than it was printed of", src)
	}
	if again := print.Print(m); again != src {
		t.Errorf("9.3: Print of Parse of %q: %q", src, again)
	}
}

// alike is a second reading of 9.2.
func alike(a, b []api.Node) bool {
	a, b = copied(a), copied(b)
	for _, l := range [][]api.Node{a, b} {
		for i := range l {
			l[i].At = 0
			l[i].Names, l[i].Kids = append([]string{}, l[i].Names...), append([]int{}, l[i].Kids...)
		}
	}
	return reflect.DeepEqual(append([]api.Node{}, a...), append([]api.Node{}, b...))
}

// wantNoneIdle holds that without any `(` and its `)` a program is no more, or is
// another one.
func wantNoneIdle(t *testing.T, l []api.Node, src string) {
	t.Helper()
	var open []int
	for _, x := range lex.All(src) {
		if x.Kind != api.TSign {
			continue
		}
		switch x.Text {
		case "(":
			open = append(open, x.At)
		case ")":
			from := open[len(open)-1]
			open = open[:len(open)-1]
			without := []byte(src)
			without[from], without[x.At] = ' ', ' '
			if m, _, ok := parse.Parse(string(without)); ok && alike(l, m) {
				t.Errorf("9.1: %q: nothing asks for `(` at %d", src, from)
			}
		}
	}
}

// wantOne holds the text of an e that is all of a program.
func wantOne(t *testing.T, src, want string) {
	t.Helper()
	wantPrint(t, src, want+";\n")
}

// wantStays holds an e that is printed as it is written, wherever any e may stand.
func wantStays(t *testing.T, e string) {
	t.Helper()
	wantPrint(t, e, e+";\n")
	wantWithin(t, e, e)
}

// wantWithin holds the text of an e where any may stand and no NExpr begins.
func wantWithin(t *testing.T, e, want string) {
	t.Helper()
	for _, around := range []string{
		"let x = E;\n", "const x = E;\n", "x = E;\n", "return E;\n", "throw E;\n", "yield E;\n",
		"if (E)\nx;\n", "if (E)\nx;\nelse\ny;\n", "while (E)\nx;\n",
		"x ? E : y;\n", "x ? y : E;\n", "x[E];\n", "x(E);\n", "x(y, E, E);\n", "[E];\n", "[x, E];\n",
		"({\"x\": E});\n", "({\"x\": y, \"z\": E});\n",
	} {
		wantPrint(t, strings.ReplaceAll(around, "E", e), strings.ReplaceAll(around, "E", want))
	}
}

func TestExample(t *testing.T) {
	wantPrint(t, "a", "a;\n")
}

func TestAnEmptyProgram(t *testing.T) {
	for _, src := range []string{"", " ", "\n", "// a"} {
		wantPrint(t, src, "")
	}
	wantText(t, []api.Node{{Kind: api.NAll}}, "")
	wantText(t, []api.Node{{Kind: api.NAll, Kids: []int{}, Names: []string{}}}, "")
}

func TestBlocks(t *testing.T) {
	wantPrint(t, "{}", "{\n}\n")
	wantPrint(t, "{a}", "{\na;\n}\n")
	wantPrint(t, "{a;b}c", "{\na;\nb;\n}\nc;\n")
	wantPrint(t, "{{}}", "{\n{\n}\n}\n")
	wantPrint(t, "{{}{}}{}", "{\n{\n}\n{\n}\n}\n{\n}\n")
	wantPrint(t, "{a;{b;{c}d}}", "{\na;\n{\nb;\n{\nc;\n}\nd;\n}\n}\n")
	wantPrint(t, "{let a = 1; const b = 2; function f() {}}", "{\nlet a = 1;\nconst b = 2;\nfunction f() {\n}\n}\n")
}

func TestIfs(t *testing.T) {
	wantPrint(t, "if(a)b", "if (a)\nb;\n")
	wantPrint(t, "if(a)b;else c", "if (a)\nb;\nelse\nc;\n")
	wantPrint(t, "if(a){}", "if (a)\n{\n}\n")
	wantPrint(t, "if(a){}else{}", "if (a)\n{\n}\nelse\n{\n}\n")
	wantPrint(t, "if(a){b;c}else{d}e", "if (a)\n{\nb;\nc;\n}\nelse\n{\nd;\n}\ne;\n")
	wantPrint(t, "if((a=b)){}", "if (a = b)\n{\n}\n")
	// Whose else it is.
	wantPrint(t, "if(a)if(b)c", "if (a)\nif (b)\nc;\n")
	wantPrint(t, "if(a)if(b)c;else d", "if (a)\nif (b)\nc;\nelse\nd;\n")
	wantPrint(t, "if(a){if(b)c}else d", "if (a)\n{\nif (b)\nc;\n}\nelse\nd;\n")
	wantPrint(t, "if(a){if(b)c;else d}", "if (a)\n{\nif (b)\nc;\nelse\nd;\n}\n")
	wantPrint(t, "if(a)if(b)c;else d;else e", "if (a)\nif (b)\nc;\nelse\nd;\nelse\ne;\n")
	wantPrint(t, "if(a)b;else if(c)d", "if (a)\nb;\nelse\nif (c)\nd;\n")
	wantPrint(t, "if(a)b;else if(c)d;else e", "if (a)\nb;\nelse\nif (c)\nd;\nelse\ne;\n")
	wantPrint(t, "if(a)while(b)if(c)d;else e", "if (a)\nwhile (b)\nif (c)\nd;\nelse\ne;\n")
	wantPrint(t, "if(a)while(b){if(c)d}else e", "if (a)\nwhile (b)\n{\nif (c)\nd;\n}\nelse\ne;\n")
}

// What an if, an else, a while, a block and a function have in them.
func TestStatementsWithinStatements(t *testing.T) {
	for src, want := range map[string]string{
		"b": "b;\n", "{}": "{\n}\n", "{b}": "{\nb;\n}\n", "break": "break;\n", "continue": "continue;\n", "return": "return;\n", "return b": "return b;\n",
		"throw b": "throw b;\n", "while(b)c": "while (b)\nc;\n", "if(b)c;else d": "if (b)\nc;\nelse\nd;\n", "try{}catch(b){}": "try\n{\n}\ncatch (b)\n{\n}\n",
		"({})": "({});\n", "(function(){})": "(function () {\n});\n", "({}).b": "({}).b;\n",
	} {
		wantPrint(t, "if(a)"+src, "if (a)\n"+want)
		wantPrint(t, "if(a){}else "+src, "if (a)\n{\n}\nelse\n"+want)
		wantPrint(t, "if(a)"+src+"\nelse "+src, "if (a)\n"+want+"else\n"+want)
		wantPrint(t, "while(a)"+src, "while (a)\n"+want)
		wantPrint(t, "{"+src+"}", "{\n"+want+"}\n")
		wantPrint(t, "z;"+src+"\nz", "z;\n"+want+"z;\n")
		wantPrint(t, "try{"+src+"}catch(e){"+src+"}", "try\n{\n"+want+"}\ncatch (e)\n{\n"+want+"}\n")
		wantPrint(t, "function f(){"+src+"}", "function f() {\n"+want+"}\n")
		wantPrint(t, "a=function(){"+src+"}", "a = function () {\n"+want+"};\n")
	}
}

func TestWhilesAndJumps(t *testing.T) {
	wantPrint(t, "while(a)b", "while (a)\nb;\n")
	wantPrint(t, "while(a){}", "while (a)\n{\n}\n")
	wantPrint(t, "while(a)while(b)c", "while (a)\nwhile (b)\nc;\n")
	wantPrint(t, "while(true){break;continue}", "while (true)\n{\nbreak;\ncontinue;\n}\n")
	wantPrint(t, "break", "break;\n")
	wantPrint(t, "continue", "continue;\n")
	wantPrint(t, "return", "return;\n")
	wantPrint(t, "return\na", "return;\na;\n")
	wantPrint(t, "return(a)", "return a;\n")
	wantPrint(t, "throw(a)", "throw a;\n")
}

func TestTries(t *testing.T) {
	wantPrint(t, "try{}catch(e){}", "try\n{\n}\ncatch (e)\n{\n}\n")
	wantPrint(t, "try{a}catch($_1){b;c}", "try\n{\na;\n}\ncatch ($_1)\n{\nb;\nc;\n}\n")
	wantPrint(t, "try{try{a}catch(e){}}catch(f){try{}catch(g){b}}c",
		"try\n{\ntry\n{\na;\n}\ncatch (e)\n{\n}\n}\ncatch (f)\n{\ntry\n{\n}\ncatch (g)\n{\nb;\n}\n}\nc;\n")
}

func TestNamings(t *testing.T) {
	wantPrint(t, "let a=1", "let a = 1;\n")
	wantPrint(t, "const b=(a)", "const b = a;\n")
	wantPrint(t, "let a=b=c", "let a = b = c;\n")
	wantPrint(t, "let a={}", "let a = {};\n")
	wantPrint(t, "const a=function(){}", "const a = function () {\n};\n")
	wantPrint(t, "function f(){}", "function f() {\n}\n")
	wantPrint(t, "function*f(){}", "function* f() {\n}\n")
	wantPrint(t, "function f(a){}", "function f(a) {\n}\n")
	wantPrint(t, "function*f(a){}", "function* f(a) {\n}\n")
	wantPrint(t, "function f(a,b,c){return}", "function f(a, b, c) {\nreturn;\n}\n")
	wantPrint(t, "function * f(a,b){yield a;yield b}g", "function* f(a, b) {\nyield a;\nyield b;\n}\ng;\n")
	wantPrint(t, "function f(){function g(){}}", "function f() {\nfunction g() {\n}\n}\n")
	wantPrint(t, "a;function f(){}(function g(){})", "a;\nfunction f() {\n}\n(function g() {\n});\n")
}

func TestLeaves(t *testing.T) {
	for _, e := range []string{"0", "1", "10", "2147483647", "a", "$", "_1", "iff", "true", "false", "null", "undefined", "this", `""`, `"a b"`} {
		wantStays(t, e)
		wantOne(t, " ( ( "+e+" ) ) ", e)
	}
}

func TestTexts(t *testing.T) {
	for _, e := range []string{`"\""`, `"\\"`, `"\n"`, `"\\n"`, `"\\\""`, `"\"a\\b\nc"`, `"n"`, `"("`, `")"`, `"// a"`, `"'"`, `"~ !"`, `"yield"`} {
		wantStays(t, e)
	}
	var all strings.Builder
	for c := byte(32); c <= 126; c++ {
		if c == '"' || c == '\\' {
			all.WriteByte('\\')
		}
		all.WriteByte(c)
	}
	wantStays(t, `"`+all.String()+`\n"`)
}

func TestArraysAndCalls(t *testing.T) {
	for _, e := range []string{"[]", "[1]", "[a, b]", "[a, [], [b, [c]]]", "f()", "f(1)", "f(a, b)", "f(a, b, c)", "f()()", "f(a)(b, c)", "f(g(), [h()])", "[f(a), b]"} {
		wantStays(t, e)
	}
	wantOne(t, "[ a,b , ( c ) ]", "[a, b, c]")
	wantOne(t, "f ( a,b , ( c ) )", "f(a, b, c)")
	wantOne(t, "(f)(a)", "f(a)")
}

func TestObjects(t *testing.T) {
	for src, want := range map[string]string{
		"{}": "{}", "{a:1}": `{"a": 1}`, "{a:1,b:c}": `{"a": 1, "b": c}`, `{"a":1}`: `{"a": 1}`, "{a:1,a:2}": `{"a": 1, "a": 2}`,
		"{if:1,yield:2,this:3}": `{"if": 1, "yield": 2, "this": 3}`, `{"":1," a b":2,"1":3}`: `{"": 1, " a b": 2, "1": 3}`,
		`{"\"":1,"\\":2,"\n":3,"a\\n":4}`: `{"\"": 1, "\\": 2, "\n": 3, "a\\n": 4}`, "{a:{},b:{c:{}}}": `{"a": {}, "b": {"c": {}}}`,
		"{a:b=1,b:yield 2,c:d?e:f}": `{"a": b = 1, "b": yield 2, "c": d ? e : f}`, "{a:[],b:function(){}}": "{\"a\": [], \"b\": function () {\n}}",
	} {
		wantPrint(t, "("+src+")", "("+want+");\n")
		wantWithin(t, src, want)
		wantWithin(t, "("+src+")", want)
	}
}

func TestFunctions(t *testing.T) {
	for src, want := range map[string]string{
		"function(){}": "function () {\n}", "function*(){}": "function* () {\n}", "function f(){}": "function f() {\n}", "function*f(){}": "function* f() {\n}",
		"function(a){}": "function (a) {\n}", "function*(a,b){}": "function* (a, b) {\n}", "function f(a,b,c){}": "function f(a, b, c) {\n}",
		"function(){a;b}": "function () {\na;\nb;\n}", "function(){function f(){}}": "function () {\nfunction f() {\n}\n}",
		"function(){return function(){}}": "function () {\nreturn function () {\n};\n}", "function(){(function(){})}": "function () {\n(function () {\n});\n}",
		"function(){({})}": "function () {\n({});\n}",
	} {
		wantPrint(t, "("+src+")", "("+want+");\n")
		wantWithin(t, src, want)
		wantWithin(t, "("+src+")", want)
	}
}
