package lex_test

import (
	"math/big"
	"regexp"
	"slices"
	"strings"
	"testing"

	"boomerang/api"
	"boomerang/lex"
)

// A second reading of 7.1, by patterns: what is ahead of a token, and the tokens.
var (
	aheadForm  = regexp.MustCompile("^(?:[\t\n\r ]|//[^\n]*)*")
	numberForm = regexp.MustCompile(`^(?:0|[1-9][0-9]*)`)
	textForm   = regexp.MustCompile(`^"(?:[ !#-\[\]-~]|\\["\\n])*"`)
	nameForm   = regexp.MustCompile(`^[A-Za-z_$][A-Za-z_$0-9]*`)
	signForm   = regexp.MustCompile(`^(?:===|!==|<=|>=|&&|\|\||[{}()\[\];,.?:=<>+\-*/%!])`)
	ofNameForm = regexp.MustCompile(`^[A-Za-z_$0-9]`)
)

// modelNext tells the token from a place of src on, and the place behind it.
func modelNext(src string, from int) (x api.Token, behind int) {
	ahead := aheadForm.FindString(src[from:])
	x.At, x.Line = from+len(ahead), strings.Contains(ahead, "\n")
	rest := src[x.At:]
	if rest == "" {
		return x, x.At
	}
	x.Kind = api.TBad
	if s := numberForm.FindString(rest); s != "" {
		n, _ := new(big.Int).SetString(s, 10)
		if n.Cmp(big.NewInt(1<<31-1)) <= 0 && !ofNameForm.MatchString(rest[len(s):]) {
			x.Kind, x.Text, x.Num = api.TNum, s, int(n.Int64())
			return x, x.At + len(s)
		}
		return x, 0
	}
	if s := textForm.FindString(rest); s != "" {
		x.Kind = api.TStr
		x.Text = strings.NewReplacer(`\"`, `"`, `\\`, `\`, `\n`, "\n").Replace(s[1 : len(s)-1])
		return x, x.At + len(s)
	}
	if s := nameForm.FindString(rest); s != "" {
		x.Kind, x.Text = api.TName, s
		if slices.Contains(words(), s) {
			x.Kind = api.TWord
		}
		return x, x.At + len(s)
	}
	if s := signForm.FindString(rest); s != "" {
		x.Kind, x.Text = api.TSign, s
		return x, x.At + len(s)
	}
	return x, 0
}

// modelAll tells the tokens of src, and the place behind each.
func modelAll(src string) (l []api.Token, behind []int) {
	from := 0
	for {
		x, next := modelNext(src, from)
		l, behind = append(l, x), append(behind, next)
		if x.Kind == api.TEnd || x.Kind == api.TBad {
			return l, behind
		}
		from = next
	}
}

// wantModel holds All, and Next from each place of src on.
func wantModel(t *testing.T, src string) []api.Token {
	t.Helper()
	want, _ := modelAll(src)
	got := lex.All(src)
	if !slices.Equal(got, want) {
		t.Fatalf("7.2: All of %q: %+v; want %+v", src, got, want)
	}
	for from := range len(src) + 1 {
		want, _ := modelNext(src, from)
		if x := lex.Next(src, from); x != want {
			t.Fatalf("7.1: Next of %q at %d: %+v; want %+v", src, from, x, want)
		}
	}
	return got
}

// wantRow holds that tokens stand one behind the other, with nothing but blanks
// and comments between, and that each is what Next tells from behind the one
// ahead on.
func wantRow(t *testing.T, src string, l []api.Token) {
	t.Helper()
	_, ends := modelAll(src)
	behind := 0
	for i, x := range l {
		if x.At < behind || x.At > len(src) {
			t.Fatalf("7.3: All of %q: token %d begins at %d, and the one ahead ends at %d", src, i, x.At, behind)
		}
		if between := src[behind:x.At]; aheadForm.FindString(between) != between || x.Line != strings.Contains(between, "\n") {
			t.Fatalf("7.3: All of %q: %q stands ahead of token %d, %+v", src, between, i, x)
		}
		if lex.Next(src, behind) != x || lex.Next(src, x.At) != (api.Token{Kind: x.Kind, Text: x.Text, Num: x.Num, At: x.At}) {
			t.Fatalf("7.2: All of %q: token %d, %+v, is not the next from %d on", src, i, x, behind)
		}
		last := i == len(l)-1
		if ended := x.Kind == api.TEnd || x.Kind == api.TBad; ended != last {
			t.Fatalf("7.2: All of %q: token %d of %d is %+v", src, i, len(l), x)
		}
		if !last && ends[i] <= x.At {
			t.Fatalf("7.3: All of %q: token %d takes no bytes", src, i)
		}
		behind = ends[i]
	}
}

// All programs of few bytes that tell most.
func TestShortProgramsBesideAModel(t *testing.T) {
	const signs = "\"\\n/\n 01a=!<&"
	var grow func(src string, more int)
	grow = func(src string, more int) {
		wantRow(t, src, wantModel(t, src))
		if more == 0 {
			return
		}
		for i := range len(signs) {
			grow(src+signs[i:i+1], more-1)
		}
	}
	grow("", 4)
}

// turning tells numbers that hang on the first one alone.
func turning(seed uint32) func(below int) int {
	return func(below int) int {
		seed = seed*1664525 + 1013904223
		return int(seed>>16) % below
	}
}

// Programs of pieces that come as they do, most of them of tokens.
func TestLongerProgramsBesideAModel(t *testing.T) {
	pieces := slices.Concat(words(), signs(), signs(), []string{
		" ", " ", " ", "\n", "\n", "\t", "\r", "//", "// a \" = \n", "// x\n", "\"\"", "\"a b\"", `"\""`, `"\\"`, `"\n"`, `"\\n\"x"`,
		"a", "b1", "$", "_x", "letx", "0", "1", "42", "2147483647", " 2147483648", " 007 ", "\"", "\\", "&", "|", "#", "\x00", "\x7f", "\xff", "\"\t\"", "'",
	})
	next := turning(7)
	kinds, longest := map[int]int{}, 0
	for range 20000 {
		var src strings.Builder
		for range next(24) {
			// The last ones, which are mostly bad, would end nearly all programs early.
			n := next(len(pieces) - 12)
			if next(40) == 0 {
				n = next(len(pieces))
			}
			src.WriteString(pieces[n])
			if next(2) == 0 {
				src.WriteString(" ")
			}
		}
		l := wantModel(t, src.String())
		wantRow(t, src.String(), l)
		longest = max(longest, len(l))
		for _, x := range l {
			kinds[x.Kind]++
		}
	}
	if longest < 20 || len(kinds) != api.TBad+1 {
		t.Errorf("7.2: few tokens or few kinds alone: %d, %v", longest, kinds)
	}
}
