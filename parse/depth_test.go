package parse_test

import (
	"strings"
	"testing"

	"boomerang/api"
)

// nested puts a program in so many blocks, each of which is a statement around.
func nested(blocks int, src string) string {
	return strings.Repeat("{", blocks) + src + strings.Repeat("}", blocks)
}

// wantDepth holds how deep a program lies, and that what `^` marks in it is the
// first that lies so deep.
func wantDepth(t *testing.T, marked string, depth int) {
	t.Helper()
	src := strings.Replace(marked, "^", "", 1)
	parsed(t, nested(api.MaxDepth-depth, src))
	wantStop(t, nested(api.MaxDepth-depth+1, marked))
}

func TestDepthOfStatements(t *testing.T) {
	for marked, depth := range map[string]int{
		"^{}": 1, "{^{}}": 2, "{{}{^{}}}": 3, "^{} {} {}": 1, "{} {^{}}": 2,
		"^break": 1, "^continue;": 1, "^return": 1, "^return;": 1, "return ^a": 4, "throw ^a": 4,
		"let a = ^b": 4, "const a = ^b": 4, "^a": 4, "^a; b": 4,
		"if (^a) {}": 4, "if (a) ^b": 5, "if (a) ^b; else c": 5, "if (a) {} else ^b": 5, "if (a) { ^b }": 6,
		"if (a) {} else if (b) {} else ^c": 6, "if (a) if (b) ^c": 6, "if (a) {} else {{{{{^{}}}}}}": 7,
		"while (^a) {}": 4, "while (a) ^b": 5, "while (a) while (b) ^c": 6, "while (^a) break": 4,
		"^try {} catch (e) {}": 1, "try {^{}} catch (e) {}": 2, "try {} catch (e) {^{}}": 2,
		"try { ^a } catch (e) { b }": 5, "try {} catch (e) { ^b }": 5, "try { ^try {} catch (e) {} } catch (e) {}": 2,
		"^function f() {}": 1, "^function * f(a, b, c) {}": 1, "function f() {^{}}": 2, "function f() { ^a }": 5,
		"function f() { ^function g() {} }": 2,
	} {
		wantDepth(t, marked, depth)
	}
}

func TestDepthOfExprs(t *testing.T) {
	for marked, depth := range map[string]int{
		"(^a)": 7, "((^a))": 10, "(^a) + (b)": 7, "^a + b * c - d < e === f && g || h": 4, "a + (^b)": 7,
		"!^a": 5, "-^1": 5, "!-typeof ^a": 7, "a + !^b": 5, "!(^a)": 8, "!^a + !b": 5,
		"^[]": 4, "[^a]": 7, "[^a, b, c]": 7, "[[^[]]]": 10, "(^{})": 7, "({a: ^b})": 10, "({a: ^b, c: d})": 10, "a = ^{}": 5,
		"^a.b.c": 4, "^a()": 4, "^a()()()": 4, "a(^b)": 7, "a(^b, c)": 7, "a(^b)(c)": 7, "a[^b]": 7, "a[b(^c)]": 10, "a.b(^c).d[e]": 7,
		"a ? ^b : c": 5, "a ? b ? ^c : d : e": 6, "a ? b : c ? ^d : e": 6, "(^a) ? b : c": 7,
		"a = ^b": 5, "a = b = ^c": 6, "a[^b] = c": 7, "(^a) = b": 7, "a = b ? ^c : d": 6, "a ? b = ^c : d": 6,
		"yield ^a": 5, "yield yield ^a": 6, "a = yield ^b": 6, "yield !^a": 6,
		"(^function () {})": 7, "(function () {^{}})": 8, "(function () { ^a })": 11, "a = ^function (b, c) {}": 5, "a(function () { ^return })": 8,
	} {
		wantDepth(t, marked, depth)
	}
}

// What is one too many is told where it begins, be it a statement, an e, a u or a p.
func TestWhatIsOneTooMany(t *testing.T) {
	for _, more := range []int{37, 38, 39, 40} {
		wantStop(t, nested(more, "^a"))
		wantStop(t, nested(more, "^1 + 2"))
	}
	for _, more := range []int{38, 39, 40} {
		wantStop(t, nested(more, "^-a"))
	}
	wantStop(t, nested(37, "-^a"))
	wantStop(t, nested(40, "^{}"))
	wantStop(t, nested(40, "^{ ) }"))
	wantStop(t, nested(40, "^break"))
	wantStop(t, nested(40, "^function f() {}"))
	wantStop(t, nested(39, "if (^a) b"))
	wantStop(t, nested(39, "return ^a"))
	wantStop(t, nested(39, "let a = ^1"))
	wantStop(t, nested(36, "a = ^b"))
	wantStop(t, nested(36, "!^a"))
	wantStop(t, nested(36, "a\n(^b)"))
	wantStop(t, nested(36, "a ? ^b : c"))
	parsed(t, nested(36, "a\nb"))
	// What is wrong ahead of it, and at it, counts as ever.
	wantStop(t, nested(39, "{^)}"))
	wantStop(t, nested(39, "break ^a"))
	wantStop(t, nested(41, "")[:40]+"^)")
	// What no longer lies around counts no longer.
	parsed(t, strings.Repeat(nested(40, ""), 20))
	parsed(t, nested(36, strings.Repeat("a + ", 300)+"a; b; c"))
	parsed(t, nested(20, strings.Repeat("(f(a)[b] ? !c : {}); ", 30)))
	parsed(t, "a"+strings.Repeat(".b(c)[d]", 400))
}

// Rows of one kind: as many as may lie within one another, and one more.
func TestDepthOfOneKind(t *testing.T) {
	for _, row := range []struct {
		part, last, behind string
		most               int
		more               string
	}{
		{"{", "", "}", 40, "^{"},
		{"(", "a", ")", 12, "(^a"},
		{"[", "a", "]", 12, "[^a"},
		{"a(", "b", ")", 12, "a(^b"},
		{"a[", "b", "]", 12, "a[^b"},
		{"!", "a", "", 36, "!^a"},
		{"-", "a", "", 36, "-^a"},
		{"typeof ", "a", "", 36, "typeof ^a"},
		{"a = ", "b", "", 36, "a = ^b"},
		{"yield ", "a", "", 36, "yield ^a"},
		{"a ? b : ", "c", "", 36, "a ? ^b : c"},
		{"a ? ", "b", " : c", 36, "a ? ^b"},
		{"if (a) ", "{}", "", 37, "if (^a) {}"},
		{"while (a) ", "break", "", 37, "while (^a) break"},
		{"if (a) b; else ", "c", "", 36, "if (a) ^b"},
		{"try {", "", "} catch (e) {}", 40, "^try {"},
		{"try {} catch (e) {", "", "}", 40, "^try {"},
		{"function f() {", "", "}", 40, "^function"},
		{"return function () {", "", "}", 10, "^return"},
		{"return function () {", "return", "}", 9, "return function () { ^return"},
	} {
		ahead := strings.Repeat(row.part, row.most)
		parsed(t, ahead+row.last+strings.Repeat(row.behind, row.most))
		wantStop(t, ahead+row.more)
		wantStop(t, ahead+row.more+strings.Repeat(row.behind, row.most+1))
	}
}
