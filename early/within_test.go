package early_test

import (
	"fmt"
	"strings"
	"testing"

	"boomerang/api"
)

// eachRow goes through all rows of up to so many of these.
func eachRow(of []string, most int, each func(row []string)) {
	var from func(row []string)
	from = func(row []string) {
		each(row)
		if len(row) == most {
			return
		}
		for _, x := range of {
			from(append(row[:len(row):len(row)], x))
		}
	}
	from(nil)
}

// nest puts each of a row into the one ahead of it, and core into the last one.
func nest(row []string, core string) string {
	src := "#"
	for _, outer := range append(row[:len(row):len(row)], core) {
		src = strings.Replace(src, "#", outer, 1)
	}
	return src
}

// Whatever lies around a jump, a yield, a return: of functions and loops the
// innermost ones count.
func TestWithinAllRows(t *testing.T) {
	const loop, function, definition, generator = "while (x) { # }", "(function () { # });", "function f() { # }", "(function* () { # });"
	rows := []string{loop, function, definition, generator, "{ # }", "if (x) { # } else {}", "if (x) {} else { # }", "try { # } catch (e) {}", "try {} catch (e) { # }"}
	eachRow(rows, 4, func(row []string) {
		hasLoop, hasFunction, hasGenerator := false, false, false
		for _, outer := range row {
			switch outer {
			case loop:
				hasLoop = true
			case function, definition:
				hasLoop, hasFunction, hasGenerator = false, true, false
			case generator:
				hasLoop, hasFunction, hasGenerator = false, true, true
			}
		}
		for core, ok := range map[string]bool{"break": hasLoop, "continue": hasLoop, "return": hasFunction, "return 1": hasFunction, "yield 1": hasGenerator} {
			if ok {
				core = " " + core
			} else {
				core = "^" + core
			}
			want(t, nest(row, core))
		}
	})
}

// Whatever made a name that is set: the innermost scope that has it counts.
func TestSetWithinAllRows(t *testing.T) {
	makes := map[string]bool{
		"{ let a = 1; { # } }": true, "{ { # } let a = 1 }": true, "{ const a = 1; # }": false, "{ # const a = 1; }": false, "{ let b = 1; function a() {} # }": true,
		"(function (b, a) { # });": true, "(function (a) { { const b = 1; # } });": true, "try { const a = 1 } catch (a) { # }": true, "function f() { # const a = 1; }": false, "try { const a = 1; # } catch (a) {}": false,
	}
	rows := []string{"{ const b = 1; # }", "(function a(b) { # });", "try { # } catch (a) {}"}
	for outer := range makes {
		rows = append(rows, outer)
	}
	eachRow(rows, 3, func(row []string) {
		may := false
		for _, outer := range row {
			if is, does := makes[outer]; does {
				may = is
			}
		}
		if may {
			want(t, nest(row, "a = 2;"))
		} else {
			want(t, nest(row, "^a = 2;"))
		}
	})
}

// What is wrong is so in each part of each statement and each e.
func TestInEachPart(t *testing.T) {
	for _, e := range []string{
		"#", "#.b", "#[0]", "x[#]", "#()", "x(#)", "x(1, #)", "!#", "-#", "typeof #", "# + 1", "1 % #", "# && 1", "1 && #", "# || 1", "1 || #",
		"# ? 1 : 2", "x ? # : 2", "x ? 1 : #", "x = #", "this.b = #", "#.b = 1", "#[1] = 2", "this[#] = 1", "this[0] = #", "[#]", "[1, #]", "({a: #})", "({b: 1, a: #})", "function () { # }",
	} {
		for _, s := range []string{
			"#", "let c = #", "const c = #", "throw #", "if (#) 1", "if (1) #", "if (1) 1; else #", "while (#) 1", "while (1) #", "function f() { # }",
			"{ # }", "{ { # } }", "if (1) { # }", "if (1) 1; else { # }", "while (1) { # }", "try { # } catch (e) {}", "try {} catch (e) { # }",
		} {
			for _, core := range []string{"^q = 1", "^k = 1", "^yield 1", "^function (z, z) {}", "function () { ^break }", "function () { let z = 1; ^let z = 2 }"} {
				want(t, "const k = 1; let x = 1;"+nest([]string{s, "(" + e + ")"}, "("+core+")"))
				want(t, "const k = 1; let x = 1;"+nest([]string{s, "(" + e + ")"}, "(x = 1)"))
			}
		}
	}
}

// Many names, programs as deep, and as long, as may be.
func TestMuchOfIt(t *testing.T) {
	var names []string
	for i := range 200 {
		names = append(names, fmt.Sprint("a", i))
	}
	lets := "let " + strings.Join(names, "=0;let ") + "=0;"
	want(t, lets)
	want(t, lets+"^let a0=0")
	want(t, lets+"^const a199=0;a199=1")
	want(t, lets+strings.Join(names, "=1;")+"=1")
	all := strings.Join(names, ",")
	want(t, "function f("+all+"){}")
	want(t, "^function f("+all+",a150){}")
	want(t, "function f("+all+"){^let a199=0}")
	for open, parts := range map[string]int{"function f(){": 1, "{let b=0;": 1, "{": 1, "try{}catch(b){": 1, "while(x){": 2, "if(x){": 2} {
		for deep := range (api.MaxDepth-7)/parts + 1 {
			ahead, behind := "let x=0;const a=0;"+strings.Repeat(open, deep), strings.Repeat("}", deep)
			want(t, ahead+"^a=1"+behind)
			want(t, ahead+"x=1"+behind)
			want(t, ahead+"{let a=1;a=1;^let a=2;a=2}"+behind)
			want(t, "const c=0;let b=0;"+ahead+"{let c=0;{c=1;x=1}}"+behind+"^return")
		}
	}
	long := "let a=1;" + strings.Repeat("a=1;", api.MaxText/4-4)
	want(t, long)
	want(t, long+"^return")
}
