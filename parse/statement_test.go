package parse_test

import (
	"strings"
	"testing"
)

func TestStatements(t *testing.T) {
	wantOne(t, "{}", "Block@0")
	wantOne(t, " { a; }", "Block@1(Expr@3(Name@3:a))")
	wantOne(t, "{ a\nb; {} c }", "Block@0(Expr@2(Name@2:a) Expr@4(Name@4:b) Block@7 Expr@10(Name@10:c))")
	wantOne(t, "if (a) b", "If@0(Name@4:a Expr@7(Name@7:b))")
	wantOne(t, "if (a) b; else c", "If@0(Name@4:a Expr@7(Name@7:b) Expr@15(Name@15:c))")
	wantOne(t, "if(a){}else{}", "If@0(Name@3:a Block@5 Block@11)")
	wantOne(t, "while (a) b", "While@0(Name@7:a Expr@10(Name@10:b))")
	wantOne(t, "while (a) {}", "While@0(Name@7:a Block@10)")
	wantOne(t, "break", "Break@0")
	wantOne(t, " break;", "Break@1")
	wantOne(t, "continue", "Next@0")
	wantOne(t, " continue;", "Next@1")
	wantOne(t, "return", "Return@0")
	wantOne(t, " return;", "Return@1")
	wantOne(t, "return a", "Return@0(Name@7:a)")
	wantOne(t, "return (a);", "Return@0(Name@8:a)")
	wantOne(t, "return{}", "Return@0(Obj@6)")
	wantOne(t, "return function () {}", "Return@0(Fun@7)")
	wantOne(t, "throw a", "Throw@0(Name@6:a)")
	wantOne(t, "throw {};", "Throw@0(Obj@6)")
	wantOne(t, "try {} catch (e) {}", "Try@0:e(Block@4 Block@17)")
	wantOne(t, "try { a } catch (e) { b; c }", "Try@0:e(Block@4(Expr@6(Name@6:a)) Block@20(Expr@22(Name@22:b) Expr@25(Name@25:c)))")
	wantOne(t, "let a = b", "Let@0:a(Name@8:b)")
	wantOne(t, "let a = b = 1;", "Let@0:a(Set@8(Name@8:b Num@12#1))")
	wantOne(t, "const $a_1 = {};", "Const@0:$a_1(Obj@13)")
	wantOne(t, "function f() {}", "Def@0(Fun@0:f)")
	wantOne(t, "  function f(a) { b }", "Def@2(Fun@2:f[\"a\"](Expr@18(Name@18:b)))")
	wantOne(t, "function*f(a,b,a){{}}", "Def@0(Fun@0#1:f[\"a\" \"b\" \"a\"](Block@18))")
	wantOne(t, "function\n*\nf\n(\n)\n{\n}", "Def@0(Fun@0#1:f)")
	wantOne(t, "a", "Expr@0(Name@0:a)")
	wantOne(t, " (a);", "Expr@2(Name@2:a)")
	wantOne(t, "((a) + b)", "Expr@2(Binary@2:+(Name@2:a Name@7:b))")
}

func TestElseBelongsToTheNearestIf(t *testing.T) {
	wantOne(t, "if (a) if (b) c; else d", "If@0(Name@4:a If@7(Name@11:b Expr@14(Name@14:c) Expr@22(Name@22:d)))")
	wantOne(t, "if (a) if (b) c; else d; else e", "If@0(Name@4:a If@7(Name@11:b Expr@14(Name@14:c) Expr@22(Name@22:d)) Expr@30(Name@30:e))")
	wantOne(t, "if (a) { if (b) c } else d", "If@0(Name@4:a Block@7(If@9(Name@13:b Expr@16(Name@16:c))) Expr@25(Name@25:d))")
	wantOne(t, "if (a) while (b) c; else d", "If@0(Name@4:a While@7(Name@14:b Expr@17(Name@17:c)) Expr@25(Name@25:d))")
	wantOne(t, "if (a) b; else if (c) d; else e", "If@0(Name@4:a Expr@7(Name@7:b) If@15(Name@19:c Expr@22(Name@22:d) Expr@30(Name@30:e)))")
	wantStop(t, "if (a) b; else c; ^else d")
	wantStop(t, "if (a) b; c; ^else d")
	wantStop(t, "while (a) b; ^else c")
	wantStop(t, "^else a")
}

// A statement that asks for an end, each of a kind.
func endings() []string {
	return []string{"a", "a = 1", "yield a", "function_", "break", "continue", "return", "return a", "throw a", "let a = b", "const a = b", "a = function () {}", "a = {}"}
}

func TestEnds(t *testing.T) {
	for _, s := range endings() {
		want := s + ";"
		for _, src := range []string{s, s + " ;", s + "\n;", s + "\n", s + " // b", s + " // b\n", "\n" + s} {
			wantSame(t, "8.1", src, want)
		}
		wantSame(t, "8.1", s+"\nb", want+"b;")
		wantSame(t, "8.1", s+" // c\n b", want+"b;")
		wantSame(t, "8.1", s+"\n{}", want+"{}")
		wantSame(t, "8.1", s+"\nfunction f() {}", want+"function f() {}")
		wantSame(t, "8.1", "{"+s+"}b", "{"+want+"}b")
		wantSame(t, "8.1", "{"+s+";}", "{"+want+"}")
		if !strings.HasPrefix(s, "let ") && !strings.HasPrefix(s, "const ") {
			wantSame(t, "8.1", "if (x) "+s+"\nelse "+s, "if (x) "+want+" else "+want)
			wantSame(t, "8.1", "while (x) "+s+"\n"+s, "while (x) "+want+want)
			wantStop(t, "if (b) "+s+" ^else c")
		}
		wantSame(t, "8.1", "try {"+s+"} catch (e) {"+s+"}", "try {"+want+"} catch (e) {"+want+"}")
		wantSame(t, "8.1", "function f() {"+s+"}", "function f() {"+want+"}")
		wantSame(t, "8.1", "a = function () {"+s+"}", "a = function () {"+want+"}")
		// Of blanks none but a line's end ends it.
		wantStop(t, s+" ^let b = 1")
		wantStop(t, s+"\r^if (b) c")
		wantStop(t, s+";^;")
		wantStop(t, s+"\n;\n^;")
		wantStop(t, s+"^)")
		wantStop(t, s+"^,b")
		wantStop(t, s+"^}")
		wantStop(t, "{"+s+"}^}")
		wantStop(t, "{"+s+"^")
	}
	wantStop(t, "a ^b")
	wantStop(t, "a ^1")
	wantStop(t, "a ^\"b\"")
	wantStop(t, "a ^{}")
	wantStop(t, "a = {} ^{}")
	wantStop(t, "a ^!b")
	wantStop(t, "a = function () {} ^b")
	wantStop(t, "break ^a")
	wantStop(t, "continue ^(a)")
	wantStop(t, "let a = 1 ^b")
}

// Where a statement ends with a block it asks for no end, and takes none.
func TestNoEndBehindABlock(t *testing.T) {
	for _, s := range []string{"{}", "if (a) {}", "if (a) {} else {}", "while (a) {}", "try {} catch (e) {}", "function f() {}", "function * f() {}"} {
		for _, next := range []string{"b", "{}", "let b = 1", "(b)", "[b]", "-b", "function g() {}", "\"b\""} {
			l := parsed(t, s+next)
			if n := len(l[len(l)-1].Kids); n != 2 {
				t.Errorf("8.1: Parse of %q: %d statements", s+next, n)
			}
		}
		wantStop(t, s+"^;")
		wantStop(t, s+"\n^;")
		wantStop(t, s+"^.b")
		wantStop(t, s+"^= 1")
	}
	wantStop(t, "^;")
	wantStop(t, "if (a) ^;")
	wantStop(t, "while (a) ^;")
	wantStop(t, "if (a) b; else ^;")
	wantStop(t, "{^;}")
}

// An e takes as much as may be, whatever lines end within it.
func TestLineEndsThatEndNothing(t *testing.T) {
	wantOne(t, "a\n(b)", "Expr@0(Call@0(Name@0:a Name@3:b))")
	wantOne(t, "a\n()", "Expr@0(Call@0(Name@0:a))")
	wantOne(t, "a\n[b]", "Expr@0(At@0(Name@0:a Name@3:b))")
	wantOne(t, "a\n.b", "Expr@0(Get@0:b(Name@0:a))")
	wantOne(t, "a\n-b", "Expr@0(Binary@0:-(Name@0:a Name@3:b))")
	wantOne(t, "a\n? b\n: c", "Expr@0(Cond@0(Name@0:a Name@4:b Name@8:c))")
	wantOne(t, "a // c\n= // d\nb", "Expr@0(Set@0(Name@0:a Name@14:b))")
	wantOne(t, "let\na\n=\nb\n(c)", "Let@0:a(Call@8(Name@8:b Name@11:c))")
	wantOne(t, "return a\n(b)", "Return@0(Call@7(Name@7:a Name@10:b))")
	wantOne(t, "throw a\n[b]", "Throw@0(At@6(Name@6:a Name@9:b))")
	wantOne(t, "yield\na", "Expr@0(Yield@0(Name@6:a))")
	wantOne(t, "a = function () {}\n(b)", "Expr@0(Set@0(Name@0:a Call@4(Fun@4 Name@20:b)))")
	wantOne(t, "!\na", "Expr@0(Unary@0:!(Name@2:a))")
	wantOne(t, "if\n(\na\n)\nb\nelse\nc", "If@0(Name@5:a Expr@9(Name@9:b) Expr@16(Name@16:c))")
	wantOne(t, "try\n{\n}\ncatch\n(\ne\n)\n{\n}", "Try@0:e(Block@4 Block@20)")
	for _, sign := range strings.Fields("|| && === !== < <= > >= + - * / % =") {
		wantSame(t, "8.1", "a\n"+sign+"\nb", "a "+sign+" b;")
	}
	// What the first e has taken stays its own, though without it a program stood there.
	wantStop(t, "a\n[^]")
	wantStop(t, "a\n[b^, c]")
	wantStop(t, "a\n(b) ^= c")
	wantStop(t, "a\n=^")
	wantStop(t, "a\n*b ^c")
	// What no e goes on with begins the next statement.
	wantSame(t, "8.1", "a\n!b", "a; !b;")
	wantSame(t, "8.1", "a\ntypeof b", "a; typeof b;")
	wantSame(t, "8.1", "a\nyield b", "a; yield b;")
	wantSame(t, "8.1", "a\n{}", "a; {}")
	wantSame(t, "8.1", "break\n(a)", "break; (a);")
	wantSame(t, "8.1", "continue\n[a, b]", "continue; [a, b];")
}

func TestLineEndsBehindReturnAndThrow(t *testing.T) {
	wantTree(t, "return\n1", "All@0(Return@0 Expr@7(Num@7#1))")
	wantTree(t, "return // x\n(a)", "All@0(Return@0 Expr@13(Name@13:a))")
	wantTree(t, "return\n;a", "All@0(Return@0 Expr@8(Name@8:a))")
	wantOne(t, "return\n", "Return@0")
	wantOne(t, "{ return\n}", "Block@0(Return@2)")
	wantOne(t, "{ return }", "Block@0(Return@2)")
	wantTree(t, "{return}a", "All@0(Block@0(Return@1) Expr@8(Name@8:a))")
	wantOne(t, "return (\na\n)", "Return@0(Name@9:a)")
	wantStop(t, "return ^)")
	wantStop(t, "return ^let a = 1")
	wantStop(t, "return ^else")
	wantStop(t, "return\n^)")
	wantStop(t, "return\n^.a")
	wantStop(t, "throw\n^a")
	wantStop(t, "throw // x\n^a")
	wantStop(t, "throw\n^")
	wantStop(t, "throw^")
	wantStop(t, "throw ^;")
	wantStop(t, "{ throw ^}")
	wantStop(t, "throw\n^;")
	wantOne(t, "throw (\na\n)", "Throw@0(Name@8:a)")
	wantSame(t, "8.1", "throw\ta", "throw a;")
	wantSame(t, "8.1", "throw\ra", "throw a;")
	wantSame(t, "8.1", "return\ra", "return a;")
}

func TestWhatInnerStatementsBeginWith(t *testing.T) {
	for _, head := range []string{"if (a) ", "if (a) b; else ", "if (a) {} else ", "while (a) ", "if (a) while (b) ", "while (a) if (b) c; else "} {
		for _, s := range []string{"let b = 1", "const b = 1", "function f() {}", "function * f() {}", "function () {}", "let", "else", "catch", ")", "}", ""} {
			wantStop(t, head+"^"+s)
		}
		for _, s := range []string{"{ let b = 1 }", "{ const b = 1 }", "{ function f() {} }", "(function () {})", "b", "if (b) c", "while (b) c", "break", "continue", "return", "return b", "throw b", "try {} catch (e) {}", "yield b", "letter", "!function () {}"} {
			parsed(t, head+s)
		}
	}
}

func TestWhatStatementsBeginWith(t *testing.T) {
	wantOne(t, "{ a }", "Block@0(Expr@2(Name@2:a))")
	wantOne(t, "({})", "Expr@1(Obj@1)")
	wantOne(t, "a = {}", "Expr@0(Set@0(Name@0:a Obj@4))")
	wantOne(t, "(function f() {})", "Expr@1(Fun@1:f)")
	wantOne(t, "(function f() {})()", "Expr@1(Call@1(Fun@1:f))")
	wantOne(t, "!function () {}", "Expr@0(Unary@0:!(Fun@1))")
	wantStop(t, "{a^: 1}")
	wantStop(t, "{\"a\"^: 1}")
	wantStop(t, "{^: 1}")
	wantStop(t, "{}^.a")
	wantStop(t, "function ^() {}")
	wantStop(t, "function * ^() {}")
	wantStop(t, "function f() {}(^)")
	wantStop(t, "function f() {} ^+ a")
	for _, s := range strings.Fields(") ] } ; , . ? : = === !== < <= > >= + * / % && || else catch @ & \" 01 1a") {
		wantStop(t, "^"+s)
		wantStop(t, "a;^"+s)
		wantStop(t, "{}^"+s)
		if s != "}" {
			wantStop(t, "{^"+s)
			wantStop(t, "a = function () {^"+s)
		}
	}
}

func TestWrongStatements(t *testing.T) {
	for _, marked := range []string{
		"{^", "{a;^", "{{}^", "{}^}", "{^)",
		"if^", "if ^a", "if (^", "if (^)", "if (a^", "if (a ^b", "if (a)^", "if (a) b; else^", "if (a) b ^else c", "if (a^, b) c", "if ^{}", "if (^let",
		"while^", "while ^a", "while (^)", "while (a^", "while (a)^", "while (a) ^}",
		"break ^break", "continue ^1", "break^.a", "break ^= 1",
		"return ^return", "return a ^b", "return ^= 1",
		"throw ^throw", "throw a ^b",
		"try^", "try ^a", "try {^", "try {}^", "try {} ^{}", "try {} catch^", "try {} catch ^{}", "try {} catch (^", "try {} catch (^)", "try {} catch (^1)", "try {} catch (^\"e\")", "try {} catch (^if)", "try {} catch (e^", "try {} catch (e^, f)", "try {} catch (e)^", "try {} catch (e) ^a", "try {} catch (e) {^", "try ^if (a) {}", "try {} ^; catch (e) {}", "^catch (e) {}",
		"let^", "let ^1", "let ^\"a\"", "let ^if = 1", "let ^let = 1", "let ^undefined = 1", "let ^(a) = 1", "let a^", "let a^;", "let a ^b", "let a\n^b", "let a =^", "let a = ^;", "let a = 1^, b = 2", "let a^.b = 1", "let a ^=== 1", "let a = ^let",
		"const^", "const ^1", "const ^this = 1", "const a^", "const a^;", "const a =^", "const a = 1 ^const b = 2",
		"function^", "function ^1() {}", "function ^if() {}", "function ^\"f\"() {}", "function *^* f() {}", "function f^", "function f ^{}", "function f ^* () {}", "function f(^", "function f(^1) {}", "function f(^if) {}", "function f(^,) {}", "function f(a^", "function f(a ^b) {}", "function f(a,^", "function f(a,^) {}", "function f(a,^,b) {}", "function f(a ^= 1) {}", "function f(^(a)) {}", "function f()^", "function f() ^a", "function f() {^", "function f() {}^;", "function f() { a ^b }",
	} {
		wantStop(t, marked)
	}
}

// A text that says a word or a sign is none.
func TestTextsAreNoMarks(t *testing.T) {
	for _, s := range []string{"let", "if", "{", "(", "-", "!", "yield", "function", ";", "}", "typeof"} {
		wantOne(t, "\""+s+"\"", "Expr@0(Str@0:"+s+")")
	}
	for _, s := range []string{";", "=", "+", "(", ".", "[", "?", "}", "||", "===", "else"} {
		wantStop(t, "{ a ^\""+s+"\" }")
	}
	wantStop(t, "if ^\"(\" a)")
	wantStop(t, "(a^\")\"")
	wantStop(t, "let a ^\"=\" 1")
	wantStop(t, "[a^\",\" b]")
	wantStop(t, "function f^\"(\")")
}
