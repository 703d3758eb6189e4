package parse_test

import (
	"slices"
	"strconv"
	"strings"
	"testing"

	"boomerang/api"
)

func TestKindsOfExprs(t *testing.T) {
	wantExpr(t, "0", "Num@0")
	wantExpr(t, " 2147483647", "Num@1#2147483647")
	wantExpr(t, `"a\"\\\nb"`, "Str@0:a\"\\\nb")
	wantExpr(t, `""`, "Str@0")
	wantExpr(t, "$_a1", "Name@0:$_a1")
	wantExpr(t, "true", "Bool@0#1")
	wantExpr(t, "false", "Bool@0")
	wantExpr(t, "null", "Null@0")
	wantExpr(t, "undefined", "Undef@0")
	wantExpr(t, "this", "This@0")
	wantExpr(t, "[]", "Arr@0")
	wantExpr(t, "[a]", "Arr@0(Name@1:a)")
	wantExpr(t, "[a, [], b = 1]", "Arr@0(Name@1:a Arr@4 Set@8(Name@8:b Num@12#1))")
	wantExpr(t, "({})", "Obj@1")
	wantExpr(t, "x = {a: 1}", `Set@0(Name@0:x Obj@4["a"](Num@8#1))`)
	wantExpr(t, "a.b", "Get@0:b(Name@0:a)")
	wantExpr(t, "a[b]", "At@0(Name@0:a Name@2:b)")
	wantExpr(t, "a()", "Call@0(Name@0:a)")
	wantExpr(t, "a(b)", "Call@0(Name@0:a Name@2:b)")
	wantExpr(t, "a(b, c = d, e ? f : g)", "Call@0(Name@0:a Name@2:b Set@5(Name@5:c Name@9:d) Cond@12(Name@12:e Name@16:f Name@20:g))")
	wantExpr(t, "!a", "Unary@0:!(Name@1:a)")
	wantExpr(t, "- 1", "Unary@0:-(Num@2#1)")
	wantExpr(t, "typeof a", "Unary@0:typeof(Name@7:a)")
	wantExpr(t, "a && b", "And@0(Name@0:a Name@5:b)")
	wantExpr(t, "a || b", "Or@0(Name@0:a Name@5:b)")
	wantExpr(t, "a ? b : c", "Cond@0(Name@0:a Name@4:b Name@8:c)")
	wantExpr(t, "a = b", "Set@0(Name@0:a Name@4:b)")
	wantExpr(t, "yield a", "Yield@0(Name@6:a)")
	for _, sign := range strings.Fields("=== !== < <= > >= + - * / %") {
		wantExpr(t, "a"+sign+" 1", "Binary@0:"+sign+"(Name@0:a Num@"+strconv.Itoa(len(sign)+2)+"#1)")
	}
}

// levels are the signs of 8.2 that stand between two, those that bind least first.
func levels() [][]string {
	return [][]string{{"||"}, {"&&"}, {"===", "!=="}, {"<", "<=", ">", ">="}, {"+", "-"}, {"*", "/", "%"}}
}

func TestHowSignsBind(t *testing.T) {
	all := slices.Concat(levels()...)
	levelOf := func(sign string) int {
		return slices.IndexFunc(levels(), func(l []string) bool { return slices.Contains(l, sign) })
	}
	for _, x := range all {
		for _, y := range all {
			src := "a " + x + " b " + y + " c"
			if levelOf(y) > levelOf(x) {
				wantSame(t, "8.2", src, "a "+x+" (b "+y+" c)")
			} else {
				wantSame(t, "8.2", src, "(a "+x+" b) "+y+" c")
			}
			wantSame(t, "8.2", "!a "+x+" -b "+y+" typeof c", strings.NewReplacer("a", "(!a)", "b", "(-b)", "c", "(typeof c)").Replace(src))
		}
		wantSame(t, "8.2", "a "+x+" b ? c "+x+" d : e "+x+" f", "(a "+x+" b) ? (c "+x+" d) : (e "+x+" f)")
		wantSame(t, "8.2", "a = b "+x+" c", "a = (b "+x+" c)")
		wantSame(t, "8.2", "yield b "+x+" c", "yield (b "+x+" c)")
	}
	wantExpr(t, "a - b - c", "Binary@0:-(Binary@0:-(Name@0:a Name@4:b) Name@8:c)")
	wantExpr(t, "a - (b - c)", "Binary@0:-(Name@0:a Binary@5:-(Name@5:b Name@9:c))")
	wantExpr(t, "(a - b) - c", "Binary@1:-(Binary@1:-(Name@1:a Name@5:b) Name@10:c)")
	wantExpr(t, "a || b && c === d < e + f * -g", "Or@0(Name@0:a And@5(Name@5:b Binary@10:===(Name@10:c Binary@16:<(Name@16:d Binary@20:+(Name@20:e Binary@24:*(Name@24:f Unary@28:-(Name@29:g)))))))")
	wantExpr(t, "-a * b + c < d === e && f || g", "Or@0(And@0(Binary@0:===(Binary@0:<(Binary@0:+(Binary@0:*(Unary@0:-(Name@1:a) Name@5:b) Name@9:c) Name@13:d) Name@19:e) Name@24:f) Name@29:g)")
	wantExpr(t, "a--b", "Binary@0:-(Name@0:a Unary@2:-(Name@3:b))")
	wantExpr(t, "!a.b", "Unary@0:!(Get@1:b(Name@1:a))")
	wantExpr(t, "(!a).b", "Get@1:b(Unary@1:!(Name@2:a))")
	wantExpr(t, "typeof typeof a()", "Unary@0:typeof(Unary@7:typeof(Call@14(Name@14:a)))")
}

func TestChoicesAndSettings(t *testing.T) {
	wantSame(t, "8.2", "a ? b : c ? d : e", "a ? b : (c ? d : e)")
	wantSame(t, "8.2", "a ? b ? c : d : e", "a ? (b ? c : d) : e")
	wantSame(t, "8.2", "a || b ? c : d", "(a || b) ? c : d")
	wantSame(t, "8.2", "a ? b = c : d = e", "a ? (b = c) : (d = e)")
	wantSame(t, "8.2", "a ? yield b : yield c", "a ? (yield b) : (yield c)")
	wantSame(t, "8.2", "a = b = c", "a = (b = c)")
	wantSame(t, "8.2", "a = b ? c : d", "a = (b ? c : d)")
	wantSame(t, "8.2", "a = b.c = d[e] = f", "a = (b.c = (d[e] = f))")
	wantSame(t, "8.2", "a = yield b = c", "a = (yield (b = c))")
	wantSame(t, "8.2", "yield a ? b : c", "yield (a ? b : c)")
	wantSame(t, "8.2", "yield a = b", "yield (a = b)")
	wantSame(t, "8.2", "yield yield a || b", "yield (yield (a || b))")
	for _, target := range []string{"a", "(a)", "((a))", "a.b", "(a.b)", "a.if", "a[b]", "(a[b])", "a().b", "a.b.c[d]", "a(b)[c]", "this.a", "[].a", "1 .a", "\"\"[0]", "({}).a", "(a + b).c", "(function () {}).a", "(a = b).c", "(yield a)[b]", "true.a", "a\n"} {
		l := parsed(t, target+" = 1")
		if set := l[len(l)-3]; set.Kind != api.NSet {
			t.Errorf("8.2: Parse of %q: %s", target+" = 1", told(l, len(l)-1))
		}
	}
	for _, other := range []string{"1", "\"a\"", "true", "false", "null", "undefined", "this", "[]", "[a]", "({})", "(function () {})", "a()", "a.b()", "a[b]()", "!a", "-a.b", "typeof a[b]", "a || b", "a && b", "a + b", "a === b.c", "a < b[c]", "a * b", "(a + b)", "(a = b)", "(a ? b : c)", "(yield a)", "(a())", "(!a)", "a = b()", "a ? b : c()", "yield a()"} {
		wantStop(t, other+" ^= 1")
		wantStop(t, "x = ["+other+" ^= 1]")
		wantStop(t, other+"\n^= 1")
	}
	wantStop(t, "a ? b^")
	wantStop(t, "a ? b^; c")
	wantStop(t, "a ? ^")
	wantStop(t, "a ? ^: b")
	wantStop(t, "a ? b :^")
	wantStop(t, "a ? b : c ^: d")
	wantStop(t, "a = ^= b")
}

func TestYieldWithinExprs(t *testing.T) {
	for _, src := range []string{"(yield a)", "[yield a, yield b]", "({x: yield a, y: yield b})", "f(yield a, yield b)", "f[yield a]", "a = yield b", "a ? yield b : yield c", "if (yield a) b", "while (yield a) b", "return yield a", "throw yield a", "let b = yield a", "const b = yield a", "a + (yield b)", "!(yield a)", "yield function () { yield b }", "(yield a)(yield b)"} {
		parsed(t, src)
	}
	for _, marked := range []string{"yield^", "yield ^;", "{yield ^}", "yield ^)", "(yield^", "a + ^yield b", "a || ^yield b", "!^yield a", "typeof ^yield a", "-^yield a", "a ^yield b", "yield ^= 1", "yield ^* a", "yield ^+ a", "yield(a) ^b"} {
		wantStop(t, marked)
	}
	wantExpr(t, "yield -a", "Yield@0(Unary@6:-(Name@7:a))")
	wantExpr(t, "yield(a)", "Yield@0(Name@6:a)")
	wantExpr(t, "yield [a]", "Yield@0(Arr@6(Name@7:a))")
	wantExpr(t, "yield {}", "Yield@0(Obj@6)")
}

func words() []string {
	return strings.Fields("let const function return if else while break continue throw try catch true false null undefined this typeof yield")
}

func TestNamesOfObjects(t *testing.T) {
	wantExpr(t, `({a: 1, "b c": 2, if: 3, "": 4, a: 5})`, `Obj@1["a" "b c" "if" "" "a"](Num@5#1 Num@15#2 Num@22#3 Num@29#4 Num@35#5)`)
	wantExpr(t, "({a: b = c, d: {e: f}})", `Obj@1["a" "d"](Set@5(Name@5:b Name@9:c) Obj@15["e"](Name@19:f))`)
	wantExpr(t, "({\na\n:\nb\n,\nc\n:\nd\n})", `Obj@1["a" "c"](Name@7:b Name@15:d)`)
	for _, word := range words() {
		wantExpr(t, "({"+word+": 1})", `Obj@1["`+word+`"](Num@`+strconv.Itoa(len(word)+4)+"#1)")
		wantExpr(t, "a."+word, "Get@0:"+word+"(Name@0:a)")
		wantSame(t, "8.2", "({\""+word+"\": 1})", "({"+word+": 1})")
	}
	for _, marked := range []string{"({a^})", "({a^, b})", "({a: 1,^})", "({^,})", "({^1: 2})", "({^[a]: 2})", "({a:^})", "({a: 1 ^b: 2})", "({a: 1^; b: 2})", "({a ^= 1})", "({a^() {}})", "({^", "({a^", "({a:^", "({a: 1^", "({a: 1,^", "({^-a: 1})", "({^(a): 1})", "({a:^: 1})", "({function ^f() {}})"} {
		wantStop(t, marked)
	}
}

func TestWhatStandsBehind(t *testing.T) {
	wantExpr(t, "a.b.c", "Get@0:c(Get@0:b(Name@0:a))")
	wantExpr(t, "a.if[b](c, d)()", "Call@0(Call@0(At@0(Get@0:if(Name@0:a) Name@5:b) Name@8:c Name@11:d))")
	wantExpr(t, "a [b] [c] . d (e) (f)", "Call@0(Call@0(Get@0:d(At@0(At@0(Name@0:a Name@3:b) Name@7:c)) Name@15:e) Name@19:f)")
	wantExpr(t, "\"a\".b", "Get@0:b(Str@0:a)")
	wantExpr(t, "[a][b]", "At@0(Arr@0(Name@1:a) Name@4:b)")
	wantExpr(t, "1(2)", "Call@0(Num@0#1 Num@2#2)")
	wantExpr(t, "this.a", "Get@0:a(This@0)")
	wantExpr(t, "(a.b).c", "Get@1:c(Get@1:b(Name@1:a))")
	wantExpr(t, "a[b = c]", "At@0(Name@0:a Set@2(Name@2:b Name@6:c))")
	for _, marked := range []string{"a.^", "a.^1", "a.^\"b\"", "a.^.b", "a.^(b)", "a.^;", "a[^", "a[^]", "a[b^", "a[b^, c]", "a[b ^c]", "a[b^)", "a(^", "a(^,)", "a(b^", "a(b,^)", "a(b,^,c)", "a(b ^c)", "a(b^]", "a(b^;", "a(^let)"} {
		wantStop(t, marked)
	}
}

func TestFunctionsWithinExprs(t *testing.T) {
	wantExpr(t, "(function () {})", "Fun@1")
	wantExpr(t, "(function * () {})", "Fun@1#1")
	wantExpr(t, "(function f() {})", "Fun@1:f")
	wantExpr(t, "(function*f(a){a})", `Fun@1#1:f["a"](Expr@15(Name@15:a))`)
	wantExpr(t, "a = function (b, c) { return b; c }", `Set@0(Name@0:a Fun@4["b" "c"](Return@22(Name@29:b) Expr@32(Name@32:c)))`)
	wantExpr(t, "(function () { function g() {} })", "Fun@1(Def@15(Fun@15:g))")
	wantExpr(t, "a(function () { {} })", "Call@0(Name@0:a Fun@2(Block@16))")
	wantExpr(t, "a = function () {} + b", "Set@0(Name@0:a Binary@4:+(Fun@4 Name@21:b))")
	wantExpr(t, "a = function () {}()", "Set@0(Name@0:a Call@4(Fun@4))")
	for _, marked := range []string{"(function^", "(function ^)", "(function ^1() {})", "(function ^if() {})", "(function ^\"f\"() {})", "(function *^* () {})", "(function f ^* () {})", "(function f^)", "(function f ^g() {})", "(function (^", "(function (^1) {})", "(function (a^", "(function (a ^b) {})", "(function (a,^) {})", "(function (^,a) {})", "(function (^this) {})", "(function ()^", "(function () ^a)", "(function ()^)", "(function () {^", "(function () {^)", "(function () {}^", "(function () {}^;"} {
		wantStop(t, marked)
	}
}

func TestParensMakeNoNode(t *testing.T) {
	for _, e := range []string{"a", "1", "a.b", "a[b]", "a()", "!a", "a + b", "a && b", "a ? b : c", "a = b", "yield a", "[a]"} {
		wantSame(t, "8.3", "("+e+")", e)
		wantSame(t, "8.3", "(((\n"+e+"\n)))", e)
		wantSame(t, "8.3", "x = ["+e+", ("+e+")]", "x = [("+e+"), "+e+"]")
		a, b := parsed(t, e), parsed(t, "("+e+")")
		for i := range len(a) - 1 {
			if b[i].At != a[i].At+1 {
				t.Errorf("8.3: Parse of %q: node %d begins at %d", "("+e+")", i, b[i].At)
			}
		}
	}
	for _, marked := range []string{"(^)", "(^", "(a^", "(a^;", "(a^, b)", "(a)^)", "((a)^", "(^;)", "(a ^b)", "(^let a = 1)", "(^return)", "({^", "[(^])"} {
		wantStop(t, marked)
	}
}

func TestWrongExprs(t *testing.T) {
	for _, sign := range strings.Fields("|| && === !== < <= > >= + - * / % = ?") {
		for _, behind := range []string{"", ")", "]", "}", ";", ",", ".", ":", "?", "=", "*", "/", "%", "<", "===", "&&", "||", "let", "if", "else", "break", "catch", "@", "\"a", "01"} {
			wantStop(t, "a "+sign+" ^"+behind)
			wantStop(t, "x = [a "+sign+" ^"+behind)
		}
		if sign != "-" {
			wantStop(t, "^"+sign+" a")
			wantStop(t, "b;^"+sign+" a")
			wantStop(t, "(^"+sign+" a)")
		}
	}
	for _, marked := range []string{
		"[^", "[^,]", "[a^", "[a,^]", "[a,^,b]", "[a ^b]", "[a^;]", "[a^)", "[a^: b]", "[^let]",
		"!^", "!^;", "!^)", "!^=", "-^", "-^*a", "typeof^", "typeof ^;", "typeof ^let", "!^let",
		"a^)", "a^]", "a^, b", "a^: b", "a ^@", "a ^& b", "a ^| b", "a = ^", "a ^!b", "a ^else",
	} {
		wantStop(t, marked)
	}
	wantStop(t, "a =^")
	// Two signs side by side that might have been one of another language.
	wantStop(t, "a =^=b")
	wantStop(t, "a +^+")
	wantStop(t, "a *^* b")
	wantStop(t, "a +^= b")
	wantStop(t, "(a) =^> b")
}

// A token that is bad is one with which no program begins, wherever it stands.
func TestBadTokens(t *testing.T) {
	l := strings.Fields("let a = f ( 1 , [ b . c ] ) ; if ( d ) { return x } else while ( y ) z = function ( ) { try { } catch ( e ) { } } ; ({ k : typeof ! - 1 ? 2 : 3 })")
	for i := range l {
		ahead := strings.Join(l[:i], " ") + " "
		for _, bad := range []string{"@", "#a", "\"a", "\"\\x\"", "&", "|", "01", "1a", "2147483648", "'", "\x00", "\xff", "~"} {
			wantFalse(t, ahead+bad, len(ahead))
			wantFalse(t, ahead+bad+" "+strings.Join(l[i:], " "), len(ahead))
			wantFalse(t, ahead+"\n"+bad, len(ahead)+1)
		}
	}
	// What is wrong ahead of it counts.
	wantStop(t, "a ^b @")
	wantStop(t, "^) @")
	parsed(t, strings.Join(l, " "))
}
