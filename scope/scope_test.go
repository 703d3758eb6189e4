package scope_test

import (
	"fmt"
	"slices"
	"strings"
	"testing"

	"boomerang/api"
	"boomerang/parse"
	"boomerang/scope"
)

func parsed(t *testing.T, src string) []api.Node {
	t.Helper()
	l, at, ok := parse.Parse(src)
	if !ok {
		t.Fatalf("8.4: Parse of %q is false at %d", src, at)
	}
	return l
}

// kindOf tells the kinds of nodes that may have scopes.
func kindOf(kind int) string {
	switch kind {
	case api.NAll:
		return "all"
	case api.NFun:
		return "fun"
	case api.NBlock:
		return "block"
	}
	return fmt.Sprint(kind)
}

// slotsOf tells the nodes of a program that have scopes, in order, with how many
// names each has.
func slotsOf(t *testing.T, src string) string {
	t.Helper()
	nodes := parsed(t, src)
	slots := scope.Slots(nodes)
	if len(slots) != len(nodes) {
		t.Fatalf("10.1: of %q: %d slots of %d nodes", src, len(slots), len(nodes))
	}
	var l []string
	for at, n := range slots {
		if n != -1 {
			l = append(l, fmt.Sprint(kindOf(nodes[at].Kind), " ", n))
		}
	}
	return strings.Join(l, ", ")
}

// spotsOf tells the names of a program, and what makes names (=), in order, with
// where each has its value.
func spotsOf(t *testing.T, src string) string {
	t.Helper()
	nodes := parsed(t, src)
	spots := scope.Spots(nodes)
	if len(spots) != len(nodes) {
		t.Fatalf("10.2: of %q: %d spots of %d nodes", src, len(spots), len(nodes))
	}
	var l []string
	for at, spot := range spots {
		switch n := nodes[at]; n.Kind {
		case api.NName:
			l = append(l, fmt.Sprintf("%s %d.%d", n.Text, spot.Depth, spot.Slot))
		case api.NLet, api.NConst:
			l = append(l, fmt.Sprintf("=%s %d.%d", n.Text, spot.Depth, spot.Slot))
		case api.NDef:
			l = append(l, fmt.Sprintf("=%s %d.%d", nodes[n.Kids[0]].Text, spot.Depth, spot.Slot))
		default:
			if spot != (api.Spot{Depth: -1}) {
				t.Errorf("10.2: of %q: node %d, which is no name, has %v", src, at, spot)
			}
		}
	}
	return strings.Join(l, ", ")
}

func wantSlots(t *testing.T, src, want string) {
	t.Helper()
	if is := slotsOf(t, src); is != want {
		t.Errorf("10.1: Slots of %q: %s, not %s", src, is, want)
	}
}

func wantSpots(t *testing.T, src, want string) {
	t.Helper()
	if is := spotsOf(t, src); is != want {
		t.Errorf("10.2: Spots of %q: %s, not %s", src, is, want)
	}
}

func TestNoProgram(t *testing.T) {
	wantSlots(t, "", "all 0")
	wantSpots(t, "", "")
	if l := scope.Slots(parsed(t, "")); !slices.Equal(l, []int{0}) {
		t.Errorf("10.1: Slots of an NAll alone: %v", l)
	}
	if l := scope.Spots(parsed(t, "")); !slices.Equal(l, []api.Spot{{Depth: -1}}) {
		t.Errorf("10.2: Spots of an NAll alone: %v", l)
	}
}

func TestScopesOfPrograms(t *testing.T) {
	wantSlots(t, "a; b.c; d = e", "all 0")
	wantSlots(t, "let a = 1", "all 1")
	wantSlots(t, "const a = 1", "all 1")
	wantSlots(t, "function a() {}", "fun 0, all 1")
	wantSlots(t, "let a = 1; b; const c = 2; { } function d() {} d()", "fun 0, all 3")
	wantSlots(t, "{ let a = 1 }", "block 1, all 0")
	wantSlots(t, "if (a) { let b = 1 }", "block 1, all 0")
}

func TestScopesOfFunctions(t *testing.T) {
	wantSlots(t, "(function () {})", "fun 0, all 0")
	wantSlots(t, "(function f() {})", "fun 0, all 0")
	wantSlots(t, "(function (a, b, c) {})", "fun 3, all 0")
	wantSlots(t, "(function * (a) { yield a })", "fun 1, all 0")
	wantSlots(t, "(function (a) { let b = 1; const c = 2; function d() {} })", "fun 0, fun 4, all 0")
	wantSlots(t, "function f(a, b) { let c = 1; { } }", "fun 3, all 1")
	wantSlots(t, "function f(a) { { let b = 1; const c = 1 } }", "block 2, fun 1, all 1")
	wantSlots(t, "(function () { a; return b })", "fun 0, all 0")
	wantSlots(t, "(function () { return function (a) { return function (b, c) {} } })", "fun 2, fun 1, fun 0, all 0")
	wantSlots(t, "(function (a, a) { let a = 1; const a = 1; function a() {} })", "fun 0, fun 5, all 0")
}

func TestScopesOfBlocks(t *testing.T) {
	for _, none := range []string{
		"{}", "{ a }", "{ {} }", "{ a = b; c; break; continue; if (a) {} }", "{ return a }", "if (a) {} else {}", "while (a) { b }",
	} {
		wantSlots(t, none, "all 0")
	}
	wantSlots(t, "{ const a = 1 }", "block 1, all 0")
	wantSlots(t, "{ function a() {} }", "fun 0, block 1, all 0")
	wantSlots(t, "{ a; let b = 1; c; function d() {} const e = 1 }", "fun 0, block 3, all 0")
	wantSlots(t, "{ { let a = 1 } }", "block 1, all 0")
	wantSlots(t, "{ if (a) { let b = 1 } }", "block 1, all 0")
	wantSlots(t, "{ while (a) { let b = 1 } }", "block 1, all 0")
	wantSlots(t, "{ (function (a) { let b = 1 }) }", "fun 2, all 0")
	wantSlots(t, "{ (function a() {}) }", "fun 0, all 0")
	wantSlots(t, "{ let a = 1; { let b = 1; let c = 1; { let d = 1; let e = 1; let f = 1 } } }", "block 3, block 2, block 1, all 0")
	wantSlots(t, "if (a) { let b = 1 } else { const c = 1; const d = 1 }", "block 1, block 2, all 0")
	wantSlots(t, "while (a) { let b = 1 }", "block 1, all 0")
	wantSlots(t, "while (a) { { let b = 1 } }", "block 1, all 0")
	wantSlots(t, "while (a) if (b) { let c = 1 }", "block 1, all 0")
}

func TestScopesOfTries(t *testing.T) {
	wantSlots(t, "try {} catch (e) {}", "block 1, all 0")
	wantSlots(t, "try { a } catch (e) { b }", "block 1, all 0")
	wantSlots(t, "try {} catch (e) { let a = 1; const b = 1; function c() {} }", "fun 0, block 4, all 0")
	wantSlots(t, "try {} catch (e) { let e = 1 }", "block 2, all 0")
	wantSlots(t, "try {} catch (e) { { let a = 1; let b = 1 } }", "block 2, block 1, all 0")
	wantSlots(t, "try { let a = 1; let b = 1 } catch (e) {}", "block 2, block 1, all 0")
	wantSlots(t, "try { { let a = 1; let b = 1 } } catch (e) {}", "block 2, block 1, all 0")
	wantSlots(t, "try { try {} catch (e) { let a = 1 } } catch (e) { try {} catch (e) { let a = 1; let b = 1 } }", "block 2, block 3, block 1, all 0")
	wantSlots(t, "{ try {} catch (e) {} }", "block 1, all 0")
	wantSlots(t, "{ let a = 1; try {} catch (e) { let b = 1 } }", "block 2, block 1, all 0")
	wantSlots(t, "function f(a) { try { } catch (e) { } }", "block 1, fun 1, all 1")
}

// Slots tell which nodes have scopes, not only how many there are.
func TestWhichNodesHaveScopes(t *testing.T) {
	for src, want := range map[string][]int{
		"{}":                  {-1, 0},             // NBlock, NAll
		"{ let a = 1 }":       {-1, -1, 1, 0},      // NNum, NLet, NBlock, NAll
		"try {} catch (e) {}": {-1, 1, -1, 0},      // NBlock, NBlock, NTry, NAll
		"function f(a) {}":    {1, -1, 1},          // NFun, NDef, NAll
		"(function f() {})":   {0, -1, 0},          // NFun, NExpr, NAll
		"if (a) {} else {}":   {-1, -1, -1, -1, 0}, // NName, NBlock, NBlock, NIf, NAll
	} {
		if is := scope.Slots(parsed(t, src)); !slices.Equal(is, want) {
			t.Errorf("10.1: Slots of %q: %v, not %v", src, is, want)
		}
	}
}

func TestPlacesOfNames(t *testing.T) {
	wantSpots(t, "let a = 1; const b = 2; function c() {} let d = 3", "=a 0.0, =b 0.1, =c 0.2, =d 0.3")
	wantSpots(t, "function c() {} const b = 2; let a = 1", "=c 0.0, =b 0.1, =a 0.2")
	wantSpots(t, "x; let a = 1; { } const b = 2", "x -1.0, =a 0.0, =b 0.1")
	wantSpots(t, "{ let a = 1; const b = 2; function c() {} }", "=a 0.0, =b 0.1, =c 0.2")
	wantSpots(t, "{ function c() {} let a = c; const b = a; b }", "=c 0.0, c 0.0, =a 0.1, a 0.1, =b 0.2, b 0.2")
	wantSpots(t, "(function (a, b) { let c = b; const d = a; function e() {} c; d; e })", "b 0.1, =c 0.2, a 0.0, =d 0.3, =e 0.4, c 0.2, d 0.3, e 0.4")
	wantSpots(t, "try {} catch (e) { let a = e; const b = a; function c() {} b; c }", "e 0.0, =a 0.1, a 0.1, =b 0.2, =c 0.3, b 0.2, c 0.3")
}

func TestTwoOfOneName(t *testing.T) {
	wantSpots(t, "let a = 1; let b = 2; let a = 3; let c = a; a", "=a 0.0, =b 0.1, =a 0.0, a 0.0, =c 0.3, a 0.0")
	wantSpots(t, "let b = 1; const a = 2; function a() {} let a = 3; a; b", "=b 0.0, =a 0.1, =a 0.1, =a 0.1, a 0.1, b 0.0")
	wantSpots(t, "{ let b = 1; function a() {} const a = 2; a }", "=b 0.0, =a 0.1, =a 0.1, a 0.1")
	wantSpots(t, "(function (a, b, a, c) { a; b; c })", "a 0.0, b 0.1, c 0.3")
	wantSpots(t, "(function (b, a) { let a = 1; let c = 2; a; c })", "=a 0.1, =c 0.3, a 0.1, c 0.3")
	wantSpots(t, "(function (b, a) { function a() {} const b = 1 })", "=a 0.1, =b 0.0")
	wantSpots(t, "try {} catch (e) { let a = 1; let e = 2; const b = 3; e; b }", "=a 0.1, =e 0.0, =b 0.3, e 0.0, b 0.3")
	wantSpots(t, "try {} catch (e) { function e() { e } }", "e 1.0, =e 0.0")
	wantSlots(t, "let a = 1; let b = 2; let a = 3; let c = a", "all 4")
}

// A scope's names are its names from its beginning on.
func TestNamesUsedAhead(t *testing.T) {
	wantSpots(t, "a; let a = 1", "a 0.0, =a 0.0")
	wantSpots(t, "let a = a", "a 0.0, =a 0.0")
	wantSpots(t, "const b = c; let c = b", "c 0.1, =b 0.0, b 0.0, =c 0.1")
	wantSpots(t, "f(); function f() {}", "f 0.0, =f 0.0")
	wantSpots(t, "let a = 1; { a; let a = 2 } a", "=a 0.0, a 0.0, =a 0.0, a 0.0")
	wantSpots(t, "(function () { return a; let a = 1 })", "a 0.0, =a 0.0")
	wantSpots(t, "function f() { a } let a = 1", "a 1.1, =f 0.0, =a 0.1")
	wantSpots(t, "try {} catch (e) { e; a; let a = 1 }", "e 0.0, a 0.1, =a 0.1")
	wantSpots(t, "{ { a } let a = 1 } let a = 1", "a 0.0, =a 0.0, =a 0.0")
}

func TestNearestScope(t *testing.T) {
	wantSpots(t, "let x = 0; let a = 1; { let a = 2; { let b = 3; a; x } }", "=x 0.0, =a 0.1, =a 0.0, =b 0.0, a 1.0, x 2.0")
	wantSpots(t, "let a = 1; (function (a) { a; (function (b, a) { a }); (function () { a }) }); a", "=a 0.0, a 0.0, a 0.1, a 1.0, a 0.0")
	wantSpots(t, "let e = 1; try { e } catch (e) { e; try {} catch (f) { e; f } } e", "=e 0.0, e 0.0, e 0.0, e 1.0, f 0.0, e 0.0")
	wantSpots(t, "let a = 1; function f(a) { { let a = 2; a } a } a", "=a 0.0, =a 0.0, a 0.0, a 0.0, =f 0.1, a 0.0")
	wantSpots(t, "{ let a = 1 } { a }", "=a 0.0, a -1.0")
	wantSpots(t, "if (a) { let a = 1; a } else { a }", "a -1.0, =a 0.0, a 0.0, a -1.0")
}

func TestScopesLeft(t *testing.T) {
	wantSpots(t, "let a = 1; { { a } }", "=a 0.0, a 0.0")
	wantSpots(t, "let a = 1; { { { let b = 1; { { a } } } } }", "=a 0.0, =b 0.0, a 1.0")
	wantSpots(t, "let a = 1; { let b = 1; { { let c = 1; { a; b; c } } } }", "=a 0.0, =b 0.0, =c 0.0, a 2.0, b 1.0, c 0.0")
	wantSpots(t, "let a = 1; (function () { a })", "=a 0.0, a 1.0")
	wantSpots(t, "let a = 1; (function () { { a } })", "=a 0.0, a 1.0")
	wantSpots(t, "let a = 1; (function () { { let b = 1; a } })", "=a 0.0, =b 0.0, a 2.0")
	wantSpots(t, "let a = 1; (function (b) { return function () { return function (c) { return a + b + c } } })", "=a 0.0, a 3.0, b 2.0, c 0.0")
	wantSpots(t, "let a = 1; if (a) { a } else a; while (a) a", "=a 0.0, a 0.0, a 0.0, a 0.0, a 0.0, a 0.0")
	wantSpots(t, "let a = 1; try { a } catch (e) { a }", "=a 0.0, a 0.0, a 1.0")
	wantSpots(t, "let a = 1; try { try { a } catch (e) { a } } catch (e) { try { a } catch (e) { a } }", "=a 0.0, a 0.0, a 1.0, a 1.0, a 2.0")
	wantSpots(t, "let a = 1; try { let b = 1; a } catch (e) { { let b = 1; a } }", "=a 0.0, =b 0.0, a 1.0, =b 0.0, a 2.0")
}

// Whatever a name stands in, it is that of the scope around.
func TestWhereNamesStand(t *testing.T) {
	for _, e := range []string{
		"^", "^.b", "^[0]", "0[^]", "^()", "0(^)", "0(1, ^)", "!^", "-^", "typeof ^", "^ + 1", "1 % ^", "^ && 1", "1 && ^", "^ || 1", "1 || ^",
		"^ ? 1 : 2", "0 ? ^ : 2", "0 ? 1 : ^", "^ = 1", "this.b = ^", "^.b = 1", "^[1] = 2", "this[^] = 1", "this[0] = ^", "yield ^", "[^]", "[1, ^]", "({a: ^})", "({b: 1, a: ^})",
	} {
		for _, src := range []string{
			"#", "let c = #", "const c = #", "return #", "throw #", "if (#) 1", "if (1) #", "if (1) 1; else #", "while (#) 1", "while (1) #",
			"{ # }", "{ { # } }", "if (1) { # }", "if (1) 1; else { # }", "while (1) { # }", "try { # } catch (e) {}",
		} {
			src = "let b = 0; let a = 1; " + strings.Replace(src, "#", "("+strings.Replace(e, "^", "a", 1)+")", 1)
			if is := spotsOf(t, src); !strings.Contains(is, ", a 0.1") {
				t.Errorf("10.2: Spots of %q: %s", src, is)
			}
			src = "(function (a) { " + src + " })"
			if is := spotsOf(t, src); !strings.Contains(is, ", a 0.0") {
				t.Errorf("10.2: Spots of %q: %s", src, is)
			}
		}
	}
}

// Conditions, and an NTry's first block, stand outside of the scopes of blocks.
func TestOutsideOfBlocks(t *testing.T) {
	wantSpots(t, "if (a) { let a = 1 }", "a -1.0, =a 0.0")
	wantSpots(t, "while (a) { let a = 1 }", "a -1.0, =a 0.0")
	wantSpots(t, "let a = 1; while (a) { let a = a }", "=a 0.0, a 0.0, a 0.0, =a 0.0")
	wantSpots(t, "let a = 1; let b = 1; if (b) { let b = a } else { let c = b }", "=a 0.0, =b 0.1, b 0.1, a 1.0, =b 0.0, b 1.1, =c 0.0")
	wantSpots(t, "try { e } catch (e) { e }", "e -1.0, e 0.0")
	wantSpots(t, "try { a } catch (e) { let a = 1 }", "a -1.0, =a 0.1")
	wantSpots(t, "try { let a = e } catch (e) { a }", "e -1.0, =a 0.0, a -1.0")
	wantSpots(t, "try { function f() { e } } catch (e) { f }", "e -1.0, =f 0.0, f -1.0")
}

func TestNamesOfFunctions(t *testing.T) {
	wantSpots(t, "function f() { f } f", "f 1.0, =f 0.0, f 0.0")
	wantSpots(t, "let g = function f() { f }; f", "f -1.0, =g 0.0, f -1.0")
	wantSpots(t, "{ function f() { return f } } f", "f 1.0, =f 0.0, f -1.0")
	wantSpots(t, "function f(f) { f }", "f 0.0, =f 0.0")
	wantSpots(t, "(function f() { function f() { f } })", "f 1.0, =f 0.0")
	wantSpots(t, "(function f() { (function () { f }) })", "f -1.0")
	wantSpots(t, "let f = 1; (function f() { f })", "=f 0.0, f 1.0")
	wantSpots(t, "function f(a) { function g(b) { a; b; f; g } } g", "a 1.0, b 0.0, f 2.0, g 1.1, =g 0.1, =f 0.0, g -1.0")
}

func TestNamesThatNoneHas(t *testing.T) {
	wantSpots(t, "a", "a -1.0")
	wantSpots(t, "let a = b", "b -1.0, =a 0.0")
	wantSpots(t, "a.b = c", "a -1.0, c -1.0")
	wantSpots(t, "let b = 1; a.b; ({b: a})", "=b 0.0, a -1.0, a -1.0")
	wantSpots(t, "(function (a) {}); a", "a -1.0")
	wantSpots(t, "(function () { let a = 1 }); a", "=a 0.0, a -1.0")
	wantSpots(t, "let ab = 1; a; abc; aB", "=ab 0.0, a -1.0, abc -1.0, aB -1.0")
	wantSpots(t, "let b = 1; \"b\"; ({b: 1})", "=b 0.0")
}

// Many names, many scopes within one another, and rows that lie deeper than these.
func TestMuchOfIt(t *testing.T) {
	var src strings.Builder
	for i := range 300 {
		fmt.Fprintf(&src, "let a%d=a%d;", i, 299-i)
	}
	nodes := parsed(t, src.String())
	spots := scope.Spots(nodes)
	for i := range 300 {
		if name, let := spots[2*i], spots[2*i+1]; name != (api.Spot{Slot: 299 - i}) || let != (api.Spot{Slot: i}) {
			t.Errorf("10.2: of name %d: %v, %v", i, name, let)
		}
	}
	if slots := scope.Slots(nodes); slots[600] != 300 {
		t.Errorf("10.1: of 300 names: %d", slots[600])
	}
	for deep := range 36 {
		if is := spotsOf(t, "let x=0;let a=0;"+strings.Repeat("function f(){", deep)+"a"+strings.Repeat("}", deep)); !strings.Contains(is, fmt.Sprintf("a %d.1", deep)) {
			t.Errorf("10.2: of %d functions around: %s", deep, is)
		}
		if is := spotsOf(t, "let x=0;let a=0;"+strings.Repeat("{let b=0;", deep)+"a"+strings.Repeat("}", deep)); !strings.Contains(is, fmt.Sprintf("a %d.1", deep)) {
			t.Errorf("10.2: of %d blocks around: %s", deep, is)
		}
		if is := spotsOf(t, "let x=0;let a=0;"+strings.Repeat("{", deep)+"a"+strings.Repeat("}", deep)); is != "=x 0.0, =a 0.1, a 0.1" {
			t.Errorf("10.2: of %d blocks without scopes around: %s", deep, is)
		}
	}
	wantSpots(t, "let a=0;a"+strings.Repeat(".b", 2000), "=a 0.0, a 0.0")
	wantSlots(t, "{let a=0;a"+strings.Repeat("()", 2000)+"}", "block 1, all 0")
	if is, want := spotsOf(t, "let a=0;a"+strings.Repeat("+a", 1500)), "=a 0.0"+strings.Repeat(", a 0.0", 1501); is != want {
		t.Errorf("10.2: of a long sum: %s", is)
	}
}
