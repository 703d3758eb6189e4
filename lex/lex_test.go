package lex_test

import (
	"math"
	"slices"
	"strconv"
	"strings"
	"testing"

	"boomerang/api"
	"boomerang/lex"
)

func num(text string, n int) api.Token { return api.Token{Kind: api.TNum, Text: text, Num: n} }
func str(text string) api.Token        { return api.Token{Kind: api.TStr, Text: text} }
func name(text string) api.Token       { return api.Token{Kind: api.TName, Text: text} }
func word(text string) api.Token       { return api.Token{Kind: api.TWord, Text: text} }
func sign(text string) api.Token       { return api.Token{Kind: api.TSign, Text: text} }
func bad() api.Token                   { return api.Token{Kind: api.TBad} }
func end() api.Token                   { return api.Token{Kind: api.TEnd} }

// at is x, beginning there.
func at(place int, x api.Token) api.Token {
	x.At = place
	return x
}

// lined is x, with the end of a line ahead of it.
func lined(x api.Token) api.Token {
	x.Line = true
	return x
}

// words are those of the language.
func words() []string {
	return strings.Fields("let const function return if else while break continue throw try catch true false null undefined this typeof yield")
}

// signs are those of the language.
func signs() []string {
	return strings.Fields("{ } ( ) [ ] ; , . ? : = === !== < <= > >= + - * / % ! && ||")
}

// wantNext holds each field of a token.
func wantNext(t *testing.T, src string, from int, want api.Token) {
	t.Helper()
	for range 2 {
		if got := lex.Next(src, from); got != want {
			t.Errorf("7.1: Next of %.60q at %d: %+v; want %+v", src, from, got, want)
		}
	}
}

// wantFirst holds that want, and none that takes fewer bytes or more, begins src
// and ends behind size bytes.
func wantFirst(t *testing.T, src string, size int, want api.Token) {
	t.Helper()
	wantNext(t, src, 0, want)
	l := lex.All(src)
	if l[0] != want {
		t.Errorf("7.2: All of %.60q begins with %+v; want %+v", src, l[0], want)
	}
	if want.Kind == api.TBad || want.Kind == api.TEnd {
		if len(l) != 1 {
			t.Errorf("7.2: All of %.60q goes on behind %+v: %v", src, want, l)
		}
		return
	}
	if len(l) < 2 || l[1] != lex.Next(src, size) {
		t.Errorf("7.2: All of %.60q: %v; the second token is not the one from %d on", src, l, size)
	}
}

// wantAll holds all tokens of src.
func wantAll(t *testing.T, src string, want ...api.Token) {
	t.Helper()
	for range 2 {
		if got := lex.All(src); !slices.Equal(got, want) {
			t.Errorf("7.2: All of %.60q: %+v; want %+v", src, got, want)
		}
	}
}

// eachByte tells all bytes, as texts.
func eachByte() []string {
	l := make([]string, 256)
	for i := range l {
		l[i] = string([]byte{byte(i)})
	}
	return l
}

func isIn(c, list string) bool { return strings.Contains(list, c) }

const (
	digits  = "0123456789"
	letters = "abcdefghijklmnopqrstuvwxyzABCDEFGHIJKLMNOPQRSTUVWXYZ_$"
	blanks  = "\t\n\r "
)

// Each byte alone is a token, or begins nothing.
func TestEachByteAlone(t *testing.T) {
	for _, c := range eachByte() {
		switch {
		case isIn(c, blanks):
			want := at(1, end())
			want.Line = c == "\n"
			wantNext(t, c, 0, want)
		case isIn(c, digits):
			wantFirst(t, c, 1, num(c, int(c[0]-'0')))
		case isIn(c, letters):
			wantFirst(t, c, 1, name(c))
		case slices.Contains(signs(), c):
			wantFirst(t, c, 1, sign(c))
		default:
			wantFirst(t, c, 0, bad())
			wantAll(t, "a "+c+" b", name("a"), at(2, bad()))
		}
	}
}

func TestWhereNextBegins(t *testing.T) {
	src := "ab \n12 // x\n\"c\""
	for _, below := range []int{math.MinInt, math.MinInt32, -len(src), -len(src) - 1, -2, -1, 0} {
		wantNext(t, src, below, name("ab"))
	}
	wantNext(t, src, 1, at(1, name("b")))
	wantNext(t, src, 2, lined(at(4, num("12", 12))))
	wantNext(t, src, 3, lined(at(4, num("12", 12))))
	wantNext(t, src, 4, at(4, num("12", 12)))
	wantNext(t, src, 5, at(5, num("2", 2)))
	wantNext(t, src, 6, lined(at(12, str("c"))))
	wantNext(t, src, 7, lined(at(12, str("c"))))
	wantNext(t, src, 8, at(8, sign("/")))
	wantNext(t, src, 9, at(10, name("x")))
	wantNext(t, src, 11, lined(at(12, str("c"))))
	wantNext(t, src, 12, at(12, str("c")))
	wantNext(t, src, 13, at(13, name("c")))
	wantNext(t, src, 14, at(14, bad()))
	for _, behind := range []int{15, 16, 30, math.MaxInt32, math.MaxInt} {
		wantNext(t, src, behind, at(15, end()))
	}
	for _, place := range []int{math.MinInt, -1, 0, 1, math.MaxInt} {
		wantNext(t, "", place, end())
	}
	wantNext(t, "a1 = 2", 0, name("a1"))
}

// A line end behind the token is not ahead of it, nor is one ahead of at.
func TestLine(t *testing.T) {
	for _, ahead := range []string{
		"\n", " \n", "\n ", "\t\r\n ", "\n\n", "//\n", "// a b\n", "//\n//", "\n//", "\n// a\n ", "// a\n// b\n", "//\n//x", "///\n", "// \r\n",
	} {
		wantNext(t, ahead, 0, lined(at(len(ahead), end())))
		if strings.HasSuffix(ahead, "//") || strings.HasSuffix(ahead, "x") {
			continue
		}
		for src, want := range map[string]api.Token{
			"a": name("a"), "let": word("let"), "7": num("7", 7), "\"s\"": str("s"), "=": sign("="), "#": bad(), "07": bad(), "\"": bad(),
		} {
			wantNext(t, ahead+src, 0, lined(at(len(ahead), want)))
			wantNext(t, ahead+src, len(ahead), at(len(ahead), want))
		}
	}
	for _, ahead := range []string{"", " ", "\t", "\r", " \t\r ", "\r\r"} {
		wantNext(t, ahead, 0, at(len(ahead), end()))
		wantNext(t, ahead+"a\n", 0, at(len(ahead), name("a")))
		wantNext(t, ahead+"#\n", 0, at(len(ahead), bad()))
		wantNext(t, ahead+"//a", 0, at(len(ahead)+3, end()))
	}
	wantAll(t, "a\nb c\n", name("a"), lined(at(2, name("b"))), at(4, name("c")), lined(at(6, end())))
	wantAll(t, "\"\\n\" a", str("\n"), at(5, name("a")), at(6, end()))
}

func TestBlanks(t *testing.T) {
	for _, c := range eachByte() {
		if isIn(c, blanks) {
			want := at(2, name("b"))
			want.Line = c == "\n"
			last := at(3, end())
			wantAll(t, "a"+c+"b", name("a"), want, last)
			continue
		}
		if x := lex.Next(c+"b", 0); x.At != 0 || x.Line {
			t.Errorf("7.1: byte %d is as a blank: %+v", c[0], x)
		}
	}
}

func TestComments(t *testing.T) {
	for _, says := range []string{"", " ", "a", "/", "//", "\"", "\"a", "\\", "= 5 { } #", "\r", "\t x", "\x00", "\x7f\x80\xff", "\xc3\xa4", "/* */", "let"} {
		size := len(says) + 2
		wantAll(t, "//"+says, at(size, end()))
		wantAll(t, "//"+says+"\n", lined(at(size+1, end())))
		wantAll(t, "a//"+says+"\nb", name("a"), lined(at(size+2, name("b"))), at(size+3, end()))
		wantAll(t, "//"+says+"\n//"+says+"\n 1", lined(at(2*size+3, num("1", 1))), at(2*size+4, end()))
		wantAll(t, "//"+says+"\n//"+says, lined(at(2*size+1, end())))
		wantAll(t, "1//"+says, num("1", 1), at(size+1, end()))
	}
	wantAll(t, "/ /", sign("/"), at(2, sign("/")), at(3, end()))
	wantAll(t, "/", sign("/"), at(1, end()))
	wantAll(t, "/\n/", sign("/"), lined(at(2, sign("/"))), at(3, end()))
	wantAll(t, "\"//\" a", str("//"), at(5, name("a")), at(6, end()))
	wantAll(t, "/* a", sign("/"), at(1, sign("*")), at(3, name("a")), at(4, end()))
	wantNext(t, "//a", 1, at(1, sign("/")))
	wantNext(t, "// a\n", 2, at(3, name("a")))
}

func TestEnd(t *testing.T) {
	for src, want := range map[string]api.Token{
		"": end(), " ": at(1, end()), "\t\r": at(2, end()), "\n": lined(at(1, end())), "//": at(2, end()), " //x\n\n ": lined(at(7, end())),
	} {
		wantNext(t, src, 0, want)
		wantAll(t, src, want)
	}
	wantNext(t, "a", 1, at(1, end()))
	wantNext(t, "a \n ", 1, lined(at(4, end())))
	wantNext(t, "a \n ", 3, at(4, end()))
	wantNext(t, "a \n ", 99, at(4, end()))
}

func TestNumbers(t *testing.T) {
	for _, n := range []int{0, 1, 7, 9, 10, 12, 99, 100, 1000, 65536, 999999999, 1000000000, 2147483639, 2147483640, api.MaxInt - 1, api.MaxInt} {
		text := strconv.Itoa(n)
		wantFirst(t, text, len(text), num(text, n))
		wantAll(t, text, num(text, n), at(len(text), end()))
		wantAll(t, " "+text+" ", at(1, num(text, n)), at(len(text)+2, end()))
		wantFirst(t, "0"+text, 0, bad())
		wantFirst(t, "00"+text, 0, bad())
		for _, c := range eachByte() {
			switch {
			case isIn(c, letters):
				wantFirst(t, text+c, 0, bad())
			case !isIn(c, digits):
				wantFirst(t, text+c, len(text), num(text, n))
			}
		}
	}
	for _, above := range []string{
		"2147483648", "2147483649", "2147483650", "2147483657", "2147483700", "2200000000", "3000000000", "4294967295", "4294967296", "4294967297",
		"9999999999", "10000000000", "21474836470", "9223372036854775807", "9223372036854775808", "18446744073709551615", "18446744073709551616",
		"18446744073709551617", "36893488147419103232", "1" + strings.Repeat("0", 64), strings.Repeat("9", 500),
	} {
		wantFirst(t, above, 0, bad())
		wantAll(t, "a "+above+" b", name("a"), at(2, bad()))
	}
	for _, src := range []string{"00", "01", "007", "09", "0a", "0x1", "0_", "0$", "1e5", "12a", "12_", "12$", "12A", "12Z", "1let", "2147483647a"} {
		wantFirst(t, src, 0, bad())
	}
	wantAll(t, "-5", sign("-"), at(1, num("5", 5)), at(2, end()))
	wantAll(t, "1.5", num("1", 1), at(1, sign(".")), at(2, num("5", 5)), at(3, end()))
	wantAll(t, "1 a", num("1", 1), at(2, name("a")), at(3, end()))
	wantAll(t, "1//a", num("1", 1), at(4, end()))
	wantAll(t, "0\"a\"", num("0", 0), at(1, str("a")), at(4, end()))
}

// quoted is a program's way to say s.
func quoted(s string) string {
	return "\"" + strings.NewReplacer("\"", "\\\"", "\\", "\\\\", "\n", "\\n").Replace(s) + "\""
}

func TestTexts(t *testing.T) {
	wantFirst(t, "\"\"", 2, str(""))
	wantAll(t, "\"\"\"\"", str(""), at(2, str("")), at(4, end()))
	all := ""
	for c := byte(32); c <= 126; c++ {
		s := string([]byte{c})
		all += s
		wantFirst(t, quoted(s), len(quoted(s)), str(s))
		wantFirst(t, quoted("a"+s+"b")+";", len(quoted("a"+s+"b")), str("a"+s+"b"))
	}
	wantAll(t, quoted(all)+" "+quoted(all), str(all), at(len(quoted(all))+1, str(all)), at(2*len(quoted(all))+1, end()))
	for _, s := range []string{
		"let", "12", "// no", "a\nb", "\n", "\n\n", "\\", "\\\\", "\"", "\"\"", "\\\"", "\"\\", "\\n", "\\\n", "n", "\\t", "a b  c", "'", "`",
	} {
		wantFirst(t, quoted(s), len(quoted(s)), str(s))
		wantAll(t, quoted(s)+"x", str(s), at(len(quoted(s)), name("x")), at(len(quoted(s))+1, end()))
	}
	wantAll(t, `"\\"n"`, str(`\`), at(4, name("n")), at(5, bad()))
	wantAll(t, `"\\\""1`, str(`\"`), at(6, num("1", 1)), at(7, end()))
	wantAll(t, `"\\n"`, str(`\n`), at(5, end()))
}

func TestBytesWithinTexts(t *testing.T) {
	for _, c := range eachByte() {
		if c[0] < 32 || c[0] > 126 {
			for _, src := range []string{"\"" + c + "\"", "\"a" + c + "b\"", "\"" + c, "\"\\" + c + "\"", "\"\\n" + c + "\""} {
				wantFirst(t, src, 0, bad())
				wantAll(t, "a "+src+" b", name("a"), at(2, bad()))
			}
			continue
		}
		behind := map[string]string{"\"": "\"", "\\": "\\", "n": "\n"}
		if says, ok := behind[c]; ok {
			wantFirst(t, "\"\\"+c+"\"", 4, str(says))
			wantFirst(t, "\"a\\"+c+"b\"", 6, str("a"+says+"b"))
		} else {
			wantFirst(t, "\"\\"+c+"\"", 0, bad())
			wantFirst(t, "\"a\\"+c+"b\"", 0, bad())
		}
	}
	wantFirst(t, "\"\xc3\xa4\"", 0, bad())
}

func TestTextsWithoutAnEnd(t *testing.T) {
	for _, src := range []string{
		`"`, `"a`, `"a b`, `"\`, `"a\`, `"\"`, `"\\`, `"\\\"`, `"\n`, `"a\n`, `"//`, "\"a\n", "\"\n\"", "\"a\r\n\"",
	} {
		wantFirst(t, src, 0, bad())
		wantAll(t, "1\n"+src, num("1", 1), lined(at(2, bad())))
	}
}

func TestNames(t *testing.T) {
	for _, c := range eachByte() {
		if isIn(c, letters) {
			for _, s := range []string{c, c + c, c + "0", c + "1a", c + "_$", c + "let", c + letters + digits} {
				want := name(s)
				if s == "if" {
					want = word(s)
				}
				wantFirst(t, s, len(s), want)
				wantFirst(t, s+" "+s, len(s), want)
			}
		}
		ahead, all := name("q0"), name("q0"+c)
		if isIn(c, letters) || isIn(c, digits) {
			wantFirst(t, "q0"+c, 3, all)
			wantFirst(t, "q0"+c+".", 3, all)
		} else {
			wantFirst(t, "q0"+c, 2, ahead)
		}
	}
	wantAll(t, "$ _ $_1 a.b", name("$"), at(2, name("_")), at(4, name("$_1")), at(8, name("a")), at(9, sign(".")), at(10, name("b")), at(11, end()))
	wantAll(t, "a\xc3\xa4", name("a"), at(1, bad()))
}

func TestWords(t *testing.T) {
	if len(words()) != 19 {
		t.Fatal("7.1: there are 19 words")
	}
	for _, w := range words() {
		if !lex.IsWord(w) {
			t.Errorf("7.1: IsWord of %q is not so", w)
		}
		wantFirst(t, w, len(w), word(w))
		wantFirst(t, w+"(", len(w), word(w))
		for _, s := range []string{w + "x", w + "1", w + "_", w + "$", "x" + w, "_" + w, w + w, strings.ToUpper(w), strings.ToUpper(w[:1]) + w[1:], w[:len(w)-1]} {
			wantNoWord(t, s)
			wantFirst(t, s, len(s), name(s))
		}
		for _, s := range []string{w + " ", " " + w, w + "\n", w + "\x00", w + ";", w[1:] + " ", "\"" + w + "\""} {
			wantNoWord(t, s)
		}
		wantFirst(t, quoted(w), len(w)+2, str(w))
	}
	for _, s := range []string{"", " ", "a", "x1", "new", "var", "for", "of", "in", "class", "async", "await", "finally", "switch", "case", "do", "delete", "void", "NaN", "let const", "1", "=", "\xff"} {
		wantNoWord(t, s)
	}
	for _, s := range signs() {
		wantNoWord(t, s)
	}
}

func wantNoWord(t *testing.T, s string) {
	t.Helper()
	if lex.IsWord(s) {
		t.Errorf("7.1: IsWord of %q is so", s)
	}
}

func TestSigns(t *testing.T) {
	for _, s := range signs() {
		wantFirst(t, s, len(s), sign(s))
		wantAll(t, s, sign(s), at(len(s), end()))
		wantFirst(t, s+"a", len(s), sign(s))
		wantFirst(t, s+" "+s, len(s), sign(s))
		wantAll(t, "a"+s, name("a"), at(1, sign(s)), at(len(s)+1, end()))
		wantAll(t, s+"\"\"", sign(s), at(len(s), str("")), at(len(s)+2, end()))
		wantAll(t, s+"\x00", sign(s), at(len(s), bad()))
	}
}

// split says a row of signs that stand side by side.
func split(l ...string) []api.Token {
	var all []api.Token
	place := 0
	for _, s := range l {
		all = append(all, at(place, sign(s)))
		place += len(s)
	}
	return append(all, at(place, end()))
}

func TestTheLongestSign(t *testing.T) {
	for _, l := range [][]string{
		{"="}, {"=", "="}, {"==="}, {"===", "="}, {"===", "=", "="}, {"===", "==="}, {"===", "===", "="},
		{"!"}, {"!", "="}, {"!=="}, {"!==", "="}, {"!==", "==="}, {"!", "!"}, {"!", "!=="}, {"!", "!", "="}, {"=", "!=="}, {"=", "=", "!=="},
		{"<"}, {"<="}, {"<=", "="}, {"<=", "=", "="}, {"<=", "==="}, {"<", "<"}, {"<", "<="}, {"<", ">"}, {"<", ">="}, {"=", "<="},
		{">"}, {">="}, {">=", "="}, {">=", "=", "="}, {">=", "==="}, {">", ">"}, {">", ">="}, {">", "<"}, {">", "<="}, {"=", ">="}, {"=", ">"},
		{"&&"}, {"&&", "&&"}, {"||"}, {"||", "||"}, {"&&", "||"}, {"&&", "!"}, {"||", "="},
		{"+", "+"}, {"-", "-"}, {"*", "*"}, {"%", "%"}, {"+", "="}, {"-", "="}, {"*", "/"}, {"=", ">="}, {".", ".", "."}, {"?", "?"}, {"?", "."}, {":", "="},
	} {
		wantAll(t, strings.Join(l, ""), split(l...)...)
	}
	one := "{}()[];,.?:=+-*%<>!"
	wantAll(t, one, split(strings.Split(one, "")...)...)
	for c, other := range map[string]string{"&": "|", "|": "&"} {
		for _, behind := range []string{"", " ", "a", " " + c, other, other + other, "=", "\n" + c, "1", "\x00"} {
			wantFirst(t, c+behind, 0, bad())
			wantAll(t, c+c+c+behind, sign(c+c), at(2, bad()))
		}
	}
}

func TestAll(t *testing.T) {
	wantAll(t, "", end())
	wantAll(t, " \t\r\n", lined(at(4, end())))
	wantAll(t, "let f = function (x) {\n  return x === \"a\\\"b\" && 12; // so\n}",
		word("let"), at(4, name("f")), at(6, sign("=")), at(8, word("function")), at(17, sign("(")), at(18, name("x")), at(19, sign(")")), at(21, sign("{")),
		lined(at(25, word("return"))), at(32, name("x")), at(34, sign("===")), at(38, str("a\"b")), at(45, sign("&&")), at(48, num("12", 12)), at(50, sign(";")),
		lined(at(58, sign("}"))), at(59, end()))
	wantAll(t, "a = # b", name("a"), at(2, sign("=")), at(4, bad()))
	wantAll(t, "a\n\"b", name("a"), lined(at(2, bad())))
	wantAll(t, "# a # b", bad())
	wantAll(t, "a 007 b", name("a"), at(2, bad()))
	wantAll(t, "a & b", name("a"), at(2, bad()))
	wantAll(t, `"\n""\"""\\"x`, str("\n"), at(4, str("\"")), at(8, str("\\")), at(12, name("x")), at(13, end()))
	wantAll(t, `"\\n"n`, str(`\n`), at(5, name("n")), at(6, end()))
	wantAll(t, "a1=2", name("a1"), at(2, sign("=")), at(3, num("2", 2)), at(4, end()))
}

// What is told is the caller's, spare room too.
func TestWhatIsToldIsNew(t *testing.T) {
	src := "let a = \"b\\n\" + 12 // c"
	want := slices.Clone(lex.All(src))
	a, b := lex.All(src), lex.All(src)
	full := a[:cap(a)]
	for i := range full {
		full[i] = api.Token{Kind: -1, Text: "spoiled"}
	}
	_ = append(a[:1], bad(), bad())
	if !slices.Equal(b, want) {
		t.Errorf("R3: one answer is changed by another: %v", b)
	}
	wantAll(t, src, want...)
}

// Programs far longer than MaxText, of each form, are gone through once.
func TestLongPrograms(t *testing.T) {
	const n = 1 << 19
	for _, one := range []string{"a", "9", "0", " ", "\n", "//", "/", "\"", "\\", "&", "|", "=", "// \n", "\"\"", "\"\\", "a ", "1 ", "< ", "\"a\"", "#", "$\n", "\xff"} {
		src := strings.Repeat(one, n/len(one))
		l := lex.All(src)
		if last := l[len(l)-1]; last.Kind != api.TEnd && last.Kind != api.TBad {
			t.Errorf("7.2: %q many times ends with %+v", one, last)
		}
		lex.Next("\""+src, 0)
	}
	long := strings.Repeat("x", n)
	for _, want := range []api.Token{name(long), str(long)} {
		src := long
		if want.Kind == api.TStr {
			src = quoted(long)
		}
		if l := lex.All(src); len(l) != 2 || l[0] != want || l[1] != at(len(src), end()) {
			t.Errorf("7.2: a token of kind %d and many bytes is not told whole", want.Kind)
		}
	}
	if l := lex.All(strings.Repeat("a ", n/2)); len(l) != n/2+1 {
		t.Error("7.2: many tokens:", len(l))
	}
	if x := lex.Next(strings.Repeat(" ", n)+"//"+long, 0); x != at(2*n+2, end()) {
		t.Error("7.1: behind many blanks:", x.Kind, x.At)
	}
}
