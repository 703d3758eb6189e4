package print_test

import (
	"strings"
	"testing"
)

// signRows are the levels of two with a sign between, the one that binds least first.
func signRows() [][]string {
	return [][]string{{"||"}, {"&&"}, {"===", "!=="}, {"<", "<=", ">", ">="}, {"+", "-"}, {"*", "/", "%"}}
}

// eachSign tells each sign with its row.
func eachSign(yield func(row int, sign string)) {
	for row, signs := range signRows() {
		for _, sign := range signs {
			yield(row, sign)
		}
	}
}

// without tells a text without its parens, if it may be without.
func without(may bool, s string) string {
	if may {
		return strings.NewReplacer("(", "", ")", "").Replace(s)
	}
	return s
}

func TestEachLevelOfSignsWithinEach(t *testing.T) {
	eachSign(func(outer int, out string) {
		eachSign(func(inner int, in string) {
			left := "(a " + in + " b) " + out + " c"
			wantOne(t, left, without(inner >= outer, left))
			right := "a " + out + " (b " + in + " c)"
			wantOne(t, right, without(inner > outer, right))
			// Without parens one of both is the other's.
			bare := "a " + in + " b " + out + " c"
			wantStays(t, bare)
			both := "(a " + in + " b) " + out + " (c " + in + " d)"
			if inner == outer {
				both = "a " + in + " b " + out + " (c " + in + " d)"
			}
			wantOne(t, both, without(inner > outer, both))
		})
	})
}

func TestTwoAmongOthers(t *testing.T) {
	eachSign(func(_ int, s string) {
		two := "a " + s + " b"
		wantStays(t, two)
		wantOne(t, "(a)"+s+"(b)", two)
		// A part of others, or of what is asked of one.
		for _, around := range []string{"!(X)", "-(X)", "typeof (X)", "(X).c", "(X)[c]", "(X)(c)", "(X)()"} {
			wantStays(t, strings.ReplaceAll(around, "X", two))
		}
		wantStays(t, two+" ? c : d")
		wantOne(t, "("+two+")?("+two+"):("+two+")", two+" ? "+two+" : "+two)
		wantOne(t, "c=("+two+")", "c = "+two)
		wantOne(t, "yield("+two+")", "yield "+two)
		// Other parts of it.
		for _, u := range []string{"!x", "-x", "typeof x", "--x", "x.y", "x[y]", "x()", "[]", "1"} {
			wantStays(t, u+" "+s+" "+u)
			wantOne(t, "("+u+")"+s+"("+u+")", u+" "+s+" "+u)
		}
		for _, e := range []string{"x ? y : z", "x = y", "x.y = z", "yield x", "yield x = y", "x = yield y", "x = y ? z : x"} {
			wantStays(t, "("+e+") "+s+" a")
			wantStays(t, "a "+s+" ("+e+")")
			wantStays(t, "("+e+") "+s+" ("+e+")")
		}
		for _, p := range []string{"{}", "function () {\n}"} {
			wantOne(t, "a"+s+"("+p+")", "a "+s+" "+p)
			wantOne(t, "("+p+")"+s+"a", "("+p+") "+s+" a")
			wantWithin(t, "("+p+")"+s+"("+p+")", p+" "+s+" "+p)
		}
	})
}

func TestSignsOfOne(t *testing.T) {
	for _, e := range []string{
		"!a", "-a", "typeof a", "!!a", "--a", "typeof typeof a", "!-a", "-!a", "!typeof a", "typeof !a", "-typeof a", "typeof -a", "-typeof !--a",
		"-1", "!0", `typeof "a"`, "![]", "-[a]", "!a.b", "-a[b]", "typeof a()", "!a.b(c)[d]",
		"(!a).b", "(-a)[b]", "(typeof a)(b)", "(!a)()", "(--a).b", "!(!a).b", "-(-1).a",
		"!(a ? b : c)", "-(a = b)", "typeof (yield a)", "typeof (a ? b : c)", "!(yield a)",
		"!a === b", "!(a === b)", "-a * b", "-(a * b)", "typeof a + b", "typeof (a + b)", "a - -b", "a - --b", "-a - b", "!a || b", "!(a || b)",
		"!a ? !b : !c", "a = !b", "a = -1", "yield -a", "yield !a",
	} {
		wantStays(t, e)
	}
	wantOne(t, "! ( ! ( a ) )", "!!a")
	wantOne(t, "- - a", "--a")
	wantOne(t, "-(-(a))", "--a")
	wantOne(t, "typeof(a)", "typeof a")
	wantOne(t, "typeof(typeof(a))", "typeof typeof a")
	wantOne(t, "typeof[a]", "typeof [a]")
	wantOne(t, "!(a.b)", "!a.b")
	wantOne(t, "-{}", "-{}")
	wantOne(t, "!function(){}()", "!function () {\n}()")
	wantOne(t, "typeof{}", "typeof {}")
	wantOne(t, "typeof(function(){})", "typeof function () {\n}")
}

func TestSetValues(t *testing.T) {
	for _, e := range []string{
		"a = b", "a = b = c", "a = b = c = d", "a.b = c", "a[b] = c", "a().b = c", "a[b = c] = d", "a.b.c = d.e = f", "a[b][c] = d",
		"a = b ? c : d", "a = yield b", "yield a = b", "a = b || c", "a = !b", "a = [b = c]", "a = f(b = c)", `a = {"b": c = d}`, "a = {}", "a = function () {\n}",
		"(a = b).c", "(a = b)[c]", "(a = b)()", "(a = b).c = d", "(a = b)[c] = d", "!(a = b)", "(a = b) + (c = d)", "(a = b) || (c = d)",
		"(a = b) ? c : d", "a ? b = c : d", "a ? b : c = d", "(a = b) ? c = d : e = f", "f(a = b, c = d)", "[a = b, c = d]", "a[b = c]", "(yield a).b = c", "(a + b).c = d", "(!a)[b] = c",
	} {
		wantStays(t, e)
	}
	wantOne(t, "(a)=(b)", "a = b")
	wantOne(t, "(a.b)=((c)=d)", "a.b = c = d")
	wantOne(t, "(((a)[b]))=c", "a[b] = c")
	wantOne(t, "((a=b))", "a = b")
}

func TestConditions(t *testing.T) {
	for _, e := range []string{
		"a ? b : c", "(a ? b : c) ? d : e", "a ? b ? c : d : e", "a ? b : c ? d : e", "(a ? b : c) ? d ? e : f : g ? h : i", "((a ? b : c) ? d : e) ? f : g",
		"a || b ? c : d", "a ? b || c : d", "a || (b ? c : d)", "(a ? b : c) || d", "(a ? b : c).d", "(a ? b : c)[d]", "(a ? b : c)()",
		"(yield a) ? yield b : yield c", "yield a ? b : c", "yield (yield a) ? b : c", "a = b ? c : d", "(a = b) ? c : d", "[a ? b : c]", "f(a ? b : c, d)", "a[b ? c : d]", `a = {"b": c ? d : e}`,
		"!a ? b : c", "!(a ? b : c)", "a.b ? c.d : e.f", "a() ? b() : c()",
	} {
		wantStays(t, e)
	}
	wantOne(t, "(a||b)?(c?d:e):(f?g:h)", "a || b ? c ? d : e : f ? g : h")
	wantOne(t, "(a?b:c)?(d=e):(yield f)", "(a ? b : c) ? d = e : yield f")
	wantOne(t, "({})?{}:{}", "({}) ? {} : {}")
	wantOne(t, "(function(){})?a:b", "(function () {\n}) ? a : b")
}

func TestYields(t *testing.T) {
	for _, e := range []string{
		"yield a", "yield yield a", "yield a = b", "yield a ? b : c", "yield a || b", "yield -a", "yield [a]", "yield {}", "yield function () {\n}", "yield (yield a) + b", "yield (yield a).b",
		"(yield a).b", "(yield a)[b]", "(yield a)()", "a[yield b]", "a(yield b)", "a(yield b, yield c)", "[yield a, yield b]", `a = {"b": yield c}`,
		"!(yield a)", "-(yield a)", "typeof (yield a)", "(yield a) + b", "a + (yield b)", "(yield a) || b", "a && (yield b)", "a = yield b", "a = b = yield c",
	} {
		wantStays(t, e)
	}
	wantOne(t, "yield(a)", "yield a")
	wantOne(t, "yield(yield(a))", "yield yield a")
	wantOne(t, "(yield(a=b))", "yield a = b")
	wantOne(t, "a=(yield b)", "a = yield b")
	wantOne(t, "yield({})", "yield {}")
}

// What stands ahead of `.`, `[` and `(`.
func TestWhatThingsAreAskedOf(t *testing.T) {
	for _, behind := range []string{".a", ".if", "[a]", "[a = b]", "[yield a]", "()", "(a)", "(a, b)", "(a = b)"} {
		for _, p := range []string{"1", "2147483647", `"a"`, "a", "true", "null", "undefined", "this", "[]", "[a]", "a.b", "a[b]", "a()", "1.a"} {
			wantStays(t, p+behind)
			wantOne(t, "("+p+")"+behind, p+behind)
			wantOne(t, p+" "+behind, p+behind)
		}
		for _, p := range []string{"{}", `{"a": 1}`, "function () {\n}", "function* f(a, b) {\nreturn;\n}"} {
			wantWithin(t, p+behind, p+behind)
			wantWithin(t, "("+p+")"+behind, p+behind)
			wantOne(t, "("+p+")"+behind, "("+p+")"+behind)
			wantOne(t, "("+p+behind+")", "("+p+")"+behind)
			wantOne(t, "("+p+behind+behind+")", "("+p+")"+behind+behind)
		}
		for _, e := range []string{"!a", "-a", "typeof a", "-1", "a + b", "a || b", "a ? b : c", "a = b", "yield a", "!{}"} {
			wantStays(t, "("+e+")"+behind)
			wantOne(t, "(("+e+"))"+behind, "("+e+")"+behind)
		}
	}
}

// What an NExpr would begin with stands in parens; what stands behind does not.
func TestWhatAnExprBeginsWith(t *testing.T) {
	for src, want := range map[string]string{
		"({})": "({})", "(({}))": "({})", "({}.a)": "({}).a", "({}).a.b[c](d)": "({}).a.b[c](d)", "({}.a.b[c](d))": "({}).a.b[c](d)",
		"({}.a=1)": "({}).a = 1", "({}[a]=b={})": "({})[a] = b = {}", "({}.a=1).b": "({}.a = 1).b", "({}.a=1)+b": "({}.a = 1) + b",
		"({}+1)": "({}) + 1", "({}+1)*2": "({} + 1) * 2", "({}*1+2)": "({}) * 1 + 2", "({}*1+2)*3": "({} * 1 + 2) * 3", "({}||{})": "({}) || {}", "({}&&{}||{})": "({}) && {} || {}",
		"({}?{}:{})": "({}) ? {} : {}", "({}?a:b)?c:d": "({} ? a : b) ? c : d", "({}())": "({})()", "({}({}))": "({})({})", "({}+{})({})": "({} + {})({})",
		"-{}": "-{}", "!{}.a": "!{}.a", "yield {}": "yield {}", "[{}]": "[{}]", "a={}": "a = {}", "a+{}": "a + {}", "(-{}).a": "(-{}).a", "(yield {}).a": "(yield {}).a", "a({})": "a({})",
		"({a:{}})": `({"a": {}})`, "({a:{}}).a": `({"a": {}}).a`,
		"({a:function(){({}).a}})": "({\"a\": function () {\n({}).a;\n}})", "a=function(){({}).a}+{}": "a = function () {\n({}).a;\n} + {}",
	} {
		wantOne(t, src, want)
		wantPrint(t, "a;"+src, "a;\n"+want+";\n")
		wantPrint(t, "{}"+src, "{\n}\n"+want+";\n")
		wantPrint(t, "if(a)"+src+";else "+src, "if (a)\n"+want+";\nelse\n"+want+";\n")
	}
	f := "function () {\n}"
	for src, want := range map[string]string{
		"(F)": "(F)", "(F())": "(F)()", "(F)()": "(F)()", "(F.a=1)": "(F).a = 1", "(F+1)*2": "(F + 1) * 2", "(F+1)": "(F) + 1", "(F?F:F)": "(F) ? F : F",
		"!F": "!F", "!F()": "!F()", "a=F": "a = F", "a(F)": "a(F)", "[F]": "[F]", "yield F": "yield F", "(F||F)": "(F) || F", "(F)({})": "(F)({})", "({}(F))": "({})(F)",
	} {
		wantOne(t, strings.ReplaceAll(src, "F", f), strings.ReplaceAll(want, "F", f))
	}
	// The statements of a function that an NExpr begins with begin, too.
	wantOne(t, "(function(){({})})()", "(function () {\n({});\n})()")
	wantOne(t, "(function(){(function(){})()}).a", "(function () {\n(function () {\n})();\n}).a")
	wantOne(t, "(function(){function f(){}})", "(function () {\nfunction f() {\n}\n})")
	// No NExpr begins here.
	wantPrint(t, "function f(){}", "function f() {\n}\n")
	wantPrint(t, "return{}", "return {};\n")
	wantPrint(t, "throw function(){}", "throw function () {\n};\n")
	wantPrint(t, "if({}){}", "if ({})\n{\n}\n")
	wantPrint(t, "while(function(){}){}", "while (function () {\n})\n{\n}\n")
}
