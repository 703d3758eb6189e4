package early_test

import (
	"strings"
	"testing"

	"boomerang/api"
	"boomerang/early"
	"boomerang/parse"
)

func parsed(t *testing.T, src string) []api.Node {
	t.Helper()
	l, at, ok := parse.Parse(src)
	if !ok {
		t.Fatalf("8.4: Parse of %q is false at %d", src, at)
	}
	return l
}

// wantAt holds what Check tells; below 0: nothing is wrong.
func wantAt(t *testing.T, src string, want int) {
	t.Helper()
	at, ok := early.Check(parsed(t, src))
	if wantOK := want < 0; ok != wantOK || at != max(want, 0) {
		t.Errorf("11.1: Check of %q: %d, %v, not %d, %v", src, at, ok, max(want, 0), wantOK)
	}
}

// want holds what Check tells of a program in which a `^` stands ahead of what is
// wrong; nothing is wrong where there is none.
func want(t *testing.T, marked string) {
	t.Helper()
	wantAt(t, strings.Replace(marked, "^", "", 1), strings.Index(marked, "^"))
}

func wantEach(t *testing.T, marked ...string) {
	t.Helper()
	for _, m := range marked {
		want(t, m)
	}
}

func TestExample(t *testing.T) {
	want(t, "^return;")
}

func TestNothing(t *testing.T) {
	wantEach(t, "", " ", "\n", "// return", "{}", "{ { } }", "a", "1", "a.b(c)[d] + !e", "if (a) b; else c", "while (a) b", "throw a", "(function () {})", "function f() {}", "try {} catch (e) {}")
}

func TestNamesMadeAgain(t *testing.T) {
	for _, first := range []string{"let a = 1;", "const a = 1;", "function a() {}", "function* a() {}"} {
		for _, again := range []string{"^let a = 2;", "^const a = 2;", "^function a() {}", "^function* a() {}"} {
			wantEach(t, first+again, first+"x;"+again+"x", "{"+first+again+"}", "{ x; {"+first+"}"+first+"{ x }"+again+"}",
				"function f() {"+first+again+"}", "(function (b) {"+first+again+"})", "(function* () {"+first+again+"})",
				"try {"+first+again+"} catch (e) {}", "try {} catch (e) {"+first+again+"}",
				"if (x) {"+first+again+"}", "if (x) {} else {"+first+again+"}", "while (x) {"+first+again+"}",
				"let b = function () {"+first+again+"}", "[x, {y: function () {"+first+again+"}}]",
				"let c = 1; let d = 2;"+first+"let e = 3;"+again+first)
		}
	}
}

func TestNamesMadeAgainWhereOthersHaveThem(t *testing.T) {
	for _, again := range []string{"^let a = 2;", "^const a = 2;", "^function a() {}", "^function* a() {}"} {
		wantEach(t, "function f(a) {"+again+"}", "function* f(a) {"+again+"}", "(function (a) {"+again+"})", "(function (b, c, a) {"+again+"})",
			"(function (a, b) { let c = 1;"+again+"})", "(function (a) { x; { x } "+again+"})",
			"try {} catch (a) {"+again+"}", "try { let a = 1 } catch (a) { let b = 1;"+again+"}", "try {} catch (b) { try {} catch (a) {"+again+"} }")
	}
}

// The same name in a scope within, or around, or beside.
func TestNamesMadeAnew(t *testing.T) {
	for _, first := range []string{"let a = 1;", "const a = 1;", "function a() {}"} {
		for _, anew := range []string{"let a = 2;", "const a = 2;", "function a() {}"} {
			wantEach(t, first+"{"+anew+"}", "{"+anew+"}"+first, first+"{{"+anew+"}}", "{"+first+"}"+anew, "{"+first+"} {"+anew+"}",
				first+"if (x) {"+anew+"} else {"+anew+"}", first+"while (x) {"+anew+"}",
				first+"function f() {"+anew+"}", "(function () {"+anew+"});"+first, "function f() {"+first+"} function g() {"+anew+"}",
				first+"try {"+anew+"} catch (e) {"+anew+"}", "try {"+first+"} catch (a) { {"+anew+"} }", "try {"+first+"} catch (e) {"+anew+"}",
				"function f(a) { {"+anew+"} }", "(function (a) { function g() {"+anew+"} })", first+"(function (a) {})", first+"try {} catch (a) {}",
				"{ let b = 1; "+first+" { let b = 2; "+anew+" { let b = 3;"+anew+"} } }")
		}
	}
	wantEach(t, "try {} catch (a) { try {} catch (a) {} }", "function f(a) { try {} catch (a) {} }", "try {} catch (a) { function f(a) {} }", "function f(a) { function g(a) {} }", "(function (a) {}); (function (a) {})")
	wantEach(t, "function a() { let a = 1 }", "function a(a) {}", "(function a() { let a = 1 })", "let a = function a() {}", "function f(f) {}", "let e = 1; try {} catch (e) {}", "(function f(f) { f })", "function f() { function f() {} }", "(function a() {}); let a = 1", "(function a() {}); (function a() {})")
	wantEach(t, "let a = 1; let b = a; let c = a; let ab = a; let A = a", "let a = 1; a; ({a: a}); a.a; \"a\"")
}

// What stands ahead of a statement among the nodes, though it is none of its scope,
// takes no place of the scope's.
func TestNamesBehindOthers(t *testing.T) {
	wantEach(t, "let a = function (b, c) { let d = 1; let e = 2 }; let b = 1; let c = 2; let d = 3", "function f(a, b) { let c = 1 } let a = 1; ^let a = 2",
		"{ let b = 1; let c = 2 } let b = 1; ^let b = 2", "try { let b = 1 } catch (c) { let d = 1 } let b = 1; let c = 1; let d = 1", "let b = 1; let a = function () { let b = 1; ^let b = 2 }; let c = 1")
}

func TestParametersOfOneName(t *testing.T) {
	wantEach(t, "^function f(a, a) {}", "^function* f(a, a) {}", "(^function (a, a) {})", "(^function* (a, a) {})", "(^function f(a, a) {})",
		"x; (^function (a, b, a) {})", "^function f(a, b, b) {}", "^function f(a, a, b) {}", "^function f(a, b, c, d, e, c) {}", "^function f(a, a, a) {}",
		"let g = ^function (a, a) {}", "x(^function (a, a) {})", "function f(a) { ^function g(b, b) {} }", "(function (b) { return ^function (a, a) {} })", "{ ^function f(a, a) {} }", "let f = ^function f(f, f) {}",
		"({x: ^function (a, a) {}})", "[1, ^function (a, a) {}]", "while (^function (a, a) {}) {}")
	wantEach(t, "function f(a) {}", "function f(a, b) {}", "function f(a, aa, A, b) {}", "(function (a, b, c) {})", "function f(f) {}", "(function f(f) {})", "function f(a) { function g(a) {} }", "function f(a, b) {} function g(a, b) {}", "x(a, a)", "({a: 1, a: 2})")
}

func TestSetsOfNamesThatNoneHas(t *testing.T) {
	wantEach(t, "^a = 1", "x; ^a = 1", "{ let a = 1 } ^a = 2", "{ ^a = 2 } { let a = 1 }", "function f(a) {} ^a = 1", "(function a() { ^a = 1 })", "let b = function a() {}; ^a = 1",
		"try { ^e = 1 } catch (e) {}", "try {} catch (e) {} ^e = 1", "try { let a = 1 } catch (e) { ^a = 1 }", "if (^a = 1) { let a = 2 }", "while (^a = 1) { let a = 2 }",
		"function f() { let a = 1 } ^a = 2", "let ab = 1; ^a = 2", "let a = 1; ^ab = 2", "let a = 1; ^A = 2", "(^a) = 1", "^a = a", "let b = ^a = 1", "let b = 1; b = ^a = 1", "({a: ^a = 1})", "a[^b = 1] = 2")
}

func TestSetsOfConsts(t *testing.T) {
	wantEach(t, "const a = 1; ^a = 2", "^a = 2; const a = 1", "const a = ^a = 1", "let b = ^a = 1; const a = 2", "const a = 1; const b = ^a = 2",
		"const a = 1; { ^a = 2 }", "{ ^a = 2 } const a = 1", "const a = 1; { { let b = 1; { ^a = 2 } } }", "{ const a = 1; { let b = 2; ^a = 2 } }",
		"const a = 1; function f() { ^a = 2 }", "function f() { ^a = 2 } const a = 1", "const a = 1; (function (b) { (function (c) { ^a = 2 }) })",
		"function f() { const a = 1; ^a = 2 }", "(function (b) { const a = 1; return ^a = 2 })", "function f(b, c) { function d() {} let e = 1; const a = 1; { ^a = 1 } }",
		"try { const a = 1; ^a = 2 } catch (e) {}", "try {} catch (e) { const a = 1; ^a = 2 }", "try {} catch (e) { const a = e; e = 1; try { ^a = 2 } catch (e) {} }", "const a = 1; try { ^a = 2 } catch (e) {}", "const a = 1; try {} catch (e) { ^a = 2 }",
		"const a = 1; if (^a = 2) {}", "const a = 1; while (^a = 2) { let a = 3 }", "const a = 1; if (x) ^a = 2", "const a = 1; if (x) x; else ^a = 2", "const a = 1; while (x) ^a = 2",
		"let a = 1; { const a = 2; ^a = 3 } a = 4", "let a = 1; { const a = 2 } a = 3", "let a = 1; function f() { const a = 2; ^a = 3 }", "function f(a) { { const a = 1; ^a = 2 } }",
		"let b = 1; let c = 2; const a = 3; b = 1; c = 1; ^a = 1", "const b = 1; let c = 2; const a = 3; c = 1; ^b = 1; a = 1", "const a = 1; (^a) = 2", "const a = 1; ^a = a", "let b = 1; const a = 1; b = ^a = 2")
}

func TestSetsThatAreRight(t *testing.T) {
	wantEach(t, "let a = 1; a = 2", "a = 2; let a = 1", "let a = a = 1", "let a = 1; { a = 2 }", "let a = 1; function f() { a = 2 }", "function f() { a = 2 } let a = 1", "let a = 1; let b = 2; a = b = a = 3", "{ let a = 1; a = 2 }",
		"function f() {} f = 1", "f = 1; function f() {}", "function f() { f = 1 }", "function* f() {} f = 1", "{ function f() {} f = 1 }",
		"function f(a) { a = 1 }", "function f(a, b) { { let c = 1; b = a = 1 } }", "(function (a) { a = 1 })", "function f(a) { function g() { a = 1 } }",
		"try {} catch (e) { e = 1 }", "try {} catch (e) { { let a = 1; e = 1 } }", "try {} catch (e) { let a = 1; a = e = 1 }", "try {} catch (e) { (function () { e = 1 }) }")
	wantEach(t, "const a = 1; { let a = 2; a = 3 }", "const a = 1; { a = 3; let a = 2 }", "const a = 1; { { a = 3 } let a = 2 }", "const a = 1; function f(a) { a = 2 }", "const a = 1; function f() { let a = 2; a = 3 }", "const a = 1; function f() { function a() {} a = 2 }", "const a = 1; try {} catch (a) { a = 2 }",
		"const a = 1; try { let a = 2; a = 3 } catch (e) {}", "{ let a = 1; a = 2 } const a = 3", "{ const a = 1 } let a = 2; a = 3", "{ const a = 1 } { let a = 2; a = 3 }", "function f() { const a = 1 } let a = 2; a = 3", "try { const a = 1 } catch (a) { a = 2 }", "const a = 1; { const b = 2; let a = 3; { const c = 1; a = 4 } }")
	wantEach(t, "const b = 1; let a = 2; a = 3", "let a = 1; const b = 2; a = 3", "const a = 1; { let c = 1; let b = 2; c = 3 }", "const ab = 1; let a = 2; a = 3", "let b = 1; { const a = 2; b = 3 }", "(function (b) { const a = 2; b = 3 })", "try {} catch (b) { const a = 2; b = 3 }")
}

func TestSetsOfParts(t *testing.T) {
	wantEach(t, "a.b = 1", "a[0] = 1", "const a = 1; a.b = 2", "const a = 1; a[0] = 2", "const a = 1; a[a] = a", "const a = 1; a.a.a = 2", "a().b = 1", "this.a = 1", "const b = 1; a.b = 2", "let a = 1; (a = 2).b = 3", "(function () {}).a = 1",
		"const a = 1; (^a = 2).b = 3", "a[^a = 1] = 2", "a.b = ^a = 1", "a.b = c[0] = ^d = 1")
}

func TestBreaks(t *testing.T) {
	for _, jump := range []string{"break", "continue"} {
		wantEach(t, "^"+jump, "^"+jump+";", "x; ^"+jump, "{ ^"+jump+" }", "if (x) ^"+jump, "if (x) x; else ^"+jump, "if (x) { ^"+jump+" }", "try { ^"+jump+" } catch (e) {}", "try {} catch (e) { ^"+jump+" }",
			"while (x) x; ^"+jump, "^"+jump+"; while (x) {}", "while (x) { x } { ^"+jump+" }", "if (x) while (x) {} else ^"+jump,
			"function f() { ^"+jump+" }", "function* f() { ^"+jump+" }", "(function () { ^"+jump+" })", "while (x) { function f() { ^"+jump+" } }", "while (x) (function () { ^"+jump+" })", "while (x) { (function* () { if (x) { ^"+jump+" } }) }",
			"while (function () { ^"+jump+" }) {}", "while (x) { while (x) { function f() { while (x) {} ^"+jump+" } "+jump+" } }", "function f() { while (x) {} } ^"+jump, "while (x) { function f() {} "+jump+" } ^"+jump)
		wantEach(t, "while (x) "+jump, "while (x) { "+jump+" }", "while (x) { x; "+jump+"; x }", "while (x) if (x) "+jump, "while (x) if (x) x; else "+jump, "while (x) { if (x) { "+jump+" } else { "+jump+" } }", "while (x) { { { "+jump+" } } }", "while (x) { let a = 1; "+jump+" }",
			"while (x) { try { "+jump+" } catch (e) { "+jump+" } }", "while (x) { try { try {} catch (e) { "+jump+" } } catch (e) {} }", "while (x) while (x) "+jump, "while (x) { while (x) {} "+jump+" }",
			"function f() { while (x) "+jump+" }", "while (x) { function f() { while (x) "+jump+" } }", "while (function () { while (x) "+jump+" }) "+jump, "(function* () { while (x) { if (x) "+jump+" } })", "while (x) { function f() {} "+jump+" }", "while (x) { (function () { while (x) {} }); "+jump+" }")
	}
}

func TestYields(t *testing.T) {
	wantEach(t, "^yield 1", "x; ^yield 1", "{ ^yield 1 }", "while (^yield 1) {}", "let a = ^yield 1", "x(^yield 1)", "x + (^yield 1)",
		"function f() { ^yield 1 }", "(function () { ^yield 1 })", "function f() { return ^yield 1 }", "function f() { { x = ^yield 1 } let x = 1 }", "(function f() { while (x) { throw ^yield 1 } })",
		"function* f() { function g() { ^yield 1 } }", "function* f() { (function () { ^yield 1 }) }", "(function* () { yield 1; (function () { x(^yield 1) }) })", "function* f() { yield 1 } ^yield 2", "function* f() { yield function () { ^yield 1 } }", "function f() { (function* () {}); ^yield 1 }",
		"^yield yield 1", "^yield function* () { yield 1 }")
	wantEach(t, "function* f() { yield 1 }", "(function* () { yield 1 })", "let f = function* () { yield yield 1 }", "function* f() { return yield 1 }", "function* f() { while (yield 1) { if (yield 2) { throw yield 3 } } }", "function* f() { let a = yield 1; try { yield a } catch (e) { yield e } }", "function* f() { x(yield 1, [yield 2], {a: yield 3}) }",
		"function f() { function* g() { yield 1 } }", "(function () { return function* () { yield 1 } })", "function* f() { function g() { return function* () { yield 1 } } yield g }", "function* f() { (function () {}); yield 1 }")
}

func TestReturns(t *testing.T) {
	wantEach(t, "^return", "^return;", "^return 1", "x; ^return x", "{ ^return }", "{ { ^return 1 } }", "if (x) ^return", "if (x) x; else ^return 1", "while (x) ^return", "while (x) { ^return 1 }", "try { ^return } catch (e) {}", "try {} catch (e) { ^return }", "function f() { return } ^return", "(function () { return 1 }); ^return", "^return function () { return 1 }", "^return; function f() {}")
	wantEach(t, "function f() { return }", "function f() { return 1 }", "function* f() { return 1 }", "(function () { return })", "(function* () { return })", "function f() { { { return 1 } } }", "function f() { if (x) return; else return 1 }", "function f() { while (x) return }", "function f() { try { return } catch (e) { return } }", "function f() { function g() { return } return g }", "while (x) { function f() { return } }")
}

// Whatever is wrong, and whichever stands first among the nodes: the least At.
func TestLeastOfAll(t *testing.T) {
	wrong := []string{"^break;", "^continue;", "^return;", "^return 1;", "^yield 1;", "^q = 1;", "^k = 1;", "(^function (z, z) {});", "x = ^q = 1;", "if (1) { let d = 1; ^let d = 2 }", "function g() { function d() {} ^function d() {} }", "(function () { ^yield 1 });", "while (1) { (function () { ^break }) }"}
	for _, first := range wrong {
		for _, second := range wrong {
			second = strings.Replace(second, "^", "", 1)
			wantEach(t, first+second+"const k = 1; let x = 1", "const k = 1; let x = 1;"+first+second+second, "{"+first+"}"+second+"const k = 1; let x = 1")
		}
	}
}

// A node stands behind what lies within it, though it begins ahead of that.
func TestLeastOfThoseThatLieWithin(t *testing.T) {
	wantEach(t, "^function f(a, a) { break }", "^function f(a, a) { function g(b, b) {} }", "^yield q = 1", "^q = yield 1", "^q = function (a, a) {}", "^return yield q = 1", "^q = r = s = 1", "let a = 1; ^let a = q = 1", "const a = 1; ^const a = a = 2", "let a = 1; ^function a(b, b) { break }", "^return function (a, a) { break }", "(^function (a, a) { return q = 1 })(r = 1)", "let a = 1; { const b = 2; ^b = function (c, c) { yield 1 } } break", "^yield yield 1")
	wantEach(t, "q[^r = 1] = s = 1", "x(^yield 1, q = 1)", "(function (a) { ^let a = 1; break }); return", "while (^yield 1) { function f() { break } }", "{ while (x) { break } ^break } return", "if (^q = 1) break; else return", "function f(a) { return a } function g() { return ^q = 1 }")
}

// A name that is made twice in one scope is of what made it first: only where that is
// an NConst a set of it is wrong, wherever it stands.
func TestSetsOfNamesMadeTwice(t *testing.T) {
	for _, again := range []string{"let a = 1;", "const a = 1;", "function a() {}", "function* a() {}"} {
		wantEach(t, "^a = 2; const a = 1;"+again, "const a = 1; ^a = 2;"+again, "const a = 1; ^"+again+"a = 2", "{ ^a = 2 } const a = 1;"+again, "(function () { ^a = 2 }); const a = 1;"+again,
			"function f(b) { ^a = 2; const a = 1;"+again+"}", "try { ^a = 2; const a = 1;"+again+"} catch (e) {}", "try {} catch (e) { ^a = 2; const a = 1;"+again+"}")
	}
	for _, first := range []string{"let a = 1;", "function a() {}", "function* a() {}"} {
		for _, again := range []string{"^let a = 1;", "^const a = 1;", "^function a() {}", "^function* a() {}"} {
			wantEach(t, "a = 2;"+first+again, first+"a = 2;"+again+"a = 2", first+again+"a = 2", "{ a = 2 }"+first+again, first+"{ a = 2 }"+again, "(function () { a = 2 });"+first+again,
				"{"+first+"{ a = 2 }"+again+"}", "function f(b) { a = 2;"+first+again+"}", "try { a = 2;"+first+again+"} catch (e) {}", "try {} catch (e) { a = 2;"+first+again+"}",
				"a = 2;"+first+again+"const a = 3; let a = 3", "let b = 1; const c = 1; a = 2;"+first+"const d = 1;"+again,
				first+"{ let b = 1; { a = 2 } }"+again, "const a = 1; {"+first+"a = 2;"+again+"}", "const a = 1; { a = 2; { a = 2 }"+first+again+"}")
		}
	}
}

// A parameter and what a catch has stand ahead of all statements.
func TestSetsOfNamesMadeAgain(t *testing.T) {
	for _, again := range []string{"^let a = 1;", "^const a = 1;", "^function a() {}", "^function* a() {}"} {
		wantEach(t, "function f(a) { a = 2;"+again+"}", "function* f(a) { a = 2;"+again+"a = 2 }", "(function (b, a) { { a = 2 }"+again+"})", "(function (a, b) { (function () { a = 2 });"+again+"})",
			"try {} catch (a) { a = 2;"+again+"}", "try {} catch (a) {"+again+"a = 2 }", "try {} catch (a) { { let b = 1; a = 2 }"+again+"}", "try {} catch (a) { let b = 1; a = 2; const c = 1;"+again+"}",
			"const a = 1; (function (a) { a = 2;"+again+"})", "const a = 1; try {} catch (a) { a = 2;"+again+"}")
	}
	wantEach(t, "^function f(a, a) { a = 2; const a = 1 }", "function f(a, b) { b = 2; a = 2; ^const b = 1; const a = 1 }",
		"let b = 1; a = 2; let a = 1; ^const a = 1; const b = 1; b = 2", "let a = 1; { const a = 2; ^a = 3 } a = 4", "let a = 1; { const a = 2; { ^a = 3 } const a = 4 } const a = 5",
		"let a = 1; { a = 3; let a = 2; ^const a = 2 } const a = 5", "let a = 1; { a = 2 } { const a = 3 } ^const a = 4", "const b = 1; let a = 1; a = 2; ^const a = 3; b = 4")
}
