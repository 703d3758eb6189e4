package vint_test

import (
	"math"
	"math/big"
	"strings"
	"testing"
	"unsafe"

	"boomerang/api"
	"boomerang/vint"
)

// known are numbers with their bytes, worked out by hand.
func known() map[int]string {
	ones := strings.Repeat("\xff", 8)
	return map[int]string{
		0:                 "\x00",
		-1:                "\x01",
		1:                 "\x02",
		-2:                "\x03",
		5:                 "\x0a",
		63:                "\x7e",
		-64:               "\x7f",
		64:                "\x80\x01",
		-65:               "\x81\x01",
		150:               "\xac\x02",
		8191:              "\xfe\x7f",
		-8192:             "\xff\x7f",
		8192:              "\x80\x80\x01",
		api.MaxInt:        "\xfe\xff\xff\xff\x0f",
		api.MinInt:        "\xff\xff\xff\xff\x0f",
		1<<62 - 1:         "\xfe" + ones[:7] + "\x7f",
		-1 << 62:          "\xff" + ones[:7] + "\x7f",
		1 << 62:           "\x80" + strings.Repeat("\x80", 8) + "\x01",
		-1<<62 - 1:        "\x81" + strings.Repeat("\x80", 8) + "\x01",
		math.MaxInt:       "\xfe" + ones + "\x01",
		math.MinInt:       "\xff" + ones + "\x01",
		math.MinInt + 1:   "\xfd" + ones + "\x01",
		math.MaxInt - 1:   "\xfc" + ones + "\x01",
		math.MaxInt32 + 1: "\x80\x80\x80\x80\x10",
	}
}

// numbers are those around every power of two, of both signs.
func numbers() []int {
	var l []int
	for k := range 63 {
		for d := -2; d <= 2; d++ {
			l = append(l, 1<<k+d, -1<<k+d)
		}
	}
	for d := range 3 {
		l = append(l, math.MaxInt-d, math.MinInt+d)
	}
	return l
}

// slowPut says the promise again, with numbers that have no end.
func slowPut(n int) string {
	v := new(big.Int).Mul(big.NewInt(int64(n)), big.NewInt(2))
	if n < 0 {
		v.Neg(v).Sub(v, big.NewInt(1))
	}
	var b []byte
	for {
		rest, low := new(big.Int).DivMod(v, big.NewInt(128), new(big.Int))
		if rest.Sign() == 0 {
			return string(append(b, byte(low.Int64())))
		}
		b = append(b, byte(low.Int64())+128)
		v = rest
	}
}

// slowGet says the promise again: it reads the bytes to their end, and then
// asks whether they are the Put of what they say.
func slowGet(s string, at int) (n, next int, e api.Errno) {
	if at < 0 || at > len(s) {
		return 0, 0, api.ErrArg
	}
	v, size, ended := new(big.Int), 0, false
	for i := at; i < len(s) && !ended; i++ {
		low := big.NewInt(int64(s[i] % 128))
		v.Add(v, low.Lsh(low, uint(7*size)))
		size++
		ended = s[i] < 128
	}
	if !ended && len(s)-at < 10 {
		return 0, 0, api.ErrMore
	}
	half, odd := new(big.Int).DivMod(v, big.NewInt(2), new(big.Int))
	if odd.Sign() != 0 {
		half.Neg(half).Sub(half, big.NewInt(1))
	}
	if !ended || !half.IsInt64() || slowPut(int(half.Int64())) != s[at:at+size] {
		return 0, 0, api.ErrForm
	}
	return int(half.Int64()), at + size, api.OK
}

// wantGet holds Get against slowGet.
func wantGet(t *testing.T, s string, at int) {
	t.Helper()
	n, next, e := vint.Get(s, at)
	wantN, wantNext, wantE := slowGet(s, at)
	if n != wantN || next != wantNext || e != wantE {
		t.Fatalf("1.1: Get(%q, %d): %d, %d, %d; want %d, %d, %d", s, at, n, next, e, wantN, wantNext, wantE)
	}
}

// wantGetError asks both readers, which have Get's errors alike.
func wantGetError(t *testing.T, s string, at int, want api.Errno) {
	t.Helper()
	if n, next, e := vint.Get(s, at); n != 0 || next != 0 || e != want {
		t.Errorf("1.1: Get(%q, %d): %d, %d, %d; want the error %d alone", s, at, n, next, e, want)
	}
	wantTextError(t, s, at, want)
}

func wantTextError(t *testing.T, s string, at int, want api.Errno) {
	t.Helper()
	if got, next, e := vint.GetText(s, at); got != "" || next != 0 || e != want {
		t.Errorf("1.2: GetText(%.40q, %d): %.40q, %d, %d; want the error %d alone", s, at, got, next, e, want)
	}
}

func TestPutKnownNumbers(t *testing.T) {
	for n, want := range known() {
		if got := vint.Put(n); got != want {
			t.Errorf("1.1: Put(%d): %q; want %q", n, got, want)
		}
	}
}

func TestPutAroundPowersOfTwo(t *testing.T) {
	for _, n := range numbers() {
		if got, want := vint.Put(n), slowPut(n); got != want {
			t.Errorf("1.1: Put(%d): %q; want %q", n, got, want)
		}
	}
}

func TestGetKnownNumbers(t *testing.T) {
	for n, s := range known() {
		got, next, e := vint.Get(s, 0)
		if got != n || next != len(s) || e != api.OK {
			t.Errorf("1.1: Get(%q, 0): %d, %d, %d; want %d, %d", s, got, next, e, n, len(s))
		}
	}
}

func TestGetOfPut(t *testing.T) {
	for _, n := range numbers() {
		p := vint.Put(n)
		for _, c := range []struct{ ahead, behind string }{{"", ""}, {"", "\x00"}, {"\xff", "\xff"}, {"abc", strings.Repeat("\x80", 12)}} {
			at := len(c.ahead)
			got, next, e := vint.Get(c.ahead+p+c.behind, at)
			if got != n || next != at+len(p) || e != api.OK {
				t.Errorf("1.3: Get of Put(%d) behind %q, ahead of %q: %d, %d, %d", n, c.ahead, c.behind, got, next, e)
			}
		}
	}
}

func TestGetOneBehindAnother(t *testing.T) {
	var all strings.Builder
	for _, n := range numbers() {
		all.WriteString(vint.Put(n))
	}
	at := 0
	for _, n := range numbers() {
		got, next, e := vint.Get(all.String(), at)
		if got != n || e != api.OK {
			t.Fatalf("1.3: at %d: %d, %d; want %d", at, got, e, n)
		}
		at = next
	}
	if at != all.Len() {
		t.Errorf("1.1: the last place behind is %d of %d", at, all.Len())
	}
}

func TestNoPlace(t *testing.T) {
	for _, s := range []string{"", "\x00", "\x80", "\x80\x00", "abc", strings.Repeat("\x80", 11)} {
		for _, at := range []int{-1, -len(s) - 1, math.MinInt, len(s) + 1, math.MaxInt} {
			wantGetError(t, s, at, api.ErrArg)
		}
	}
}

func TestNothingAtTheEnd(t *testing.T) {
	for _, s := range []string{"", "\x00", "abc", "\x80", strings.Repeat("\xff", 20)} {
		wantGetError(t, s, len(s), api.ErrMore)
	}
}

func TestCutNumber(t *testing.T) {
	for _, n := range numbers() {
		p := vint.Put(n)
		for k := range len(p) {
			wantGetError(t, p[:k], 0, api.ErrMore)
			wantGetError(t, "ab"+p[:k], 2, api.ErrMore)
		}
	}
}

func TestBytesWithoutEnd(t *testing.T) {
	for _, b := range []string{"\x80", "\x81", "\xff"} {
		for size := range 14 {
			want := api.ErrMore
			if size >= 10 {
				want = api.ErrForm
			}
			wantGetError(t, strings.Repeat(b, size), 0, want)
			wantGetError(t, "\x02"+strings.Repeat(b, size), 1, want)
		}
		for _, last := range []string{"\x00", "\x01", "\x7f"} {
			wantGetError(t, strings.Repeat(b, 10)+last, 0, api.ErrForm)
			wantGetError(t, strings.Repeat(b, 11)+last, 0, api.ErrForm)
		}
	}
}

func TestNoughtTooMany(t *testing.T) {
	for ahead := 1; ahead <= 11; ahead++ {
		for _, b := range []string{"\x80", "\x81", "\xff"} {
			wantGetError(t, strings.Repeat(b, ahead)+"\x00", 0, api.ErrForm)
			wantGetError(t, strings.Repeat(b, ahead)+"\x00\x01", 0, api.ErrForm)
		}
	}
}

func TestTenthByte(t *testing.T) {
	for _, b := range []string{"\x80", "\x81", "\xfe", "\xff"} {
		nine := strings.Repeat(b, 9)
		if _, next, e := vint.Get(nine+"\x01", 0); next != 10 || e != api.OK {
			t.Errorf("1.1: ten bytes: %d, %d", next, e)
		}
		for last := range 256 {
			if last != 1 {
				wantGetError(t, nine+string([]byte{byte(last)}), 0, api.ErrForm)
			}
		}
	}
}

func TestGetOfAllShortBytes(t *testing.T) {
	for a := range 256 {
		for b := range 256 {
			s := string([]byte{byte(a), byte(b)})
			for at := -1; at <= 3; at++ {
				wantGet(t, s, at)
			}
		}
	}
}

func TestGetOfEdgeBytes(t *testing.T) {
	edges := "\x00\x01\x02\x7f\x80\x81\xff"
	heads := []string{""}
	for range 4 {
		var longer []string
		for _, h := range heads {
			for i := range len(edges) {
				longer = append(longer, h+edges[i:i+1])
			}
		}
		heads = longer
	}
	for _, h := range heads {
		for _, fill := range []int{0, 3, 4, 5, 6, 7, 8} {
			s := strings.Repeat("\x80", fill) + h
			for at := range len(s) + 1 {
				wantGet(t, s, at)
			}
		}
	}
}

// texts are of the lengths where the number ahead grows, and of the ends.
func texts() []string {
	l := []string{"", "a", "\x00", "\xff\x80", "grüße", "two\nlines"}
	for _, size := range []int{63, 64, 65, api.MaxText - 1, api.MaxText} {
		l = append(l, strings.Repeat("xyz", size)[:size])
	}
	return l
}

func TestTextIsLengthAndBytes(t *testing.T) {
	for s, want := range map[string]string{"": "\x00", "a": "\x02a", "grüße": "\x0egrüße", "\xff": "\x02\xff"} {
		if got := vint.Text(s); got != want {
			t.Errorf("1.2: Text(%q): %q; want %q", s, got, want)
		}
	}
	for _, s := range append(texts(), strings.Repeat("w", api.MaxText+1)) {
		if got := vint.Text(s); got != slowPut(len(s))+s {
			t.Errorf("1.2: Text of %d bytes: %.40q", len(s), got)
		}
	}
}

func TestGetTextOfText(t *testing.T) {
	for _, s := range texts() {
		p := vint.Text(s)
		for _, c := range []struct{ ahead, behind string }{{"", ""}, {"", "q"}, {"\xff\x80", ""}, {"abc", "\x00"}} {
			at := len(c.ahead)
			got, next, e := vint.GetText(c.ahead+p+c.behind, at)
			if got != s || next != at+len(p) || e != api.OK {
				t.Errorf("1.2: GetText of Text of %d bytes at %d: %d bytes, %d, %d", len(s), at, len(got), next, e)
			}
		}
	}
}

func TestCutText(t *testing.T) {
	for _, s := range texts() {
		p := vint.Text(s)
		for k := range len(p) {
			wantTextError(t, p[:k], 0, api.ErrMore)
			wantTextError(t, "z"+p[:k], 1, api.ErrMore)
		}
	}
}

func TestLengthThatMayNotBe(t *testing.T) {
	plenty := strings.Repeat("x", api.MaxText+2)
	for _, n := range []int{-1, -2, -64, -65, -api.MaxText, math.MinInt, math.MinInt + 1, api.MaxText + 1, api.MaxText + 2, 1 << 32, 1 << 62, math.MaxInt - 1, math.MaxInt} {
		for _, behind := range []string{"", "x", plenty} {
			wantTextError(t, vint.Put(n)+behind, 0, api.ErrForm)
			wantTextError(t, "ab"+vint.Put(n)+behind, 2, api.ErrForm)
		}
	}
	wantTextError(t, vint.Text(plenty), 0, api.ErrForm)
}

func TestTextIsNewMemory(t *testing.T) {
	s := vint.Text(strings.Repeat("k", 100))
	got, _, _ := vint.GetText(s, 0)
	from := uintptr(unsafe.Pointer(unsafe.StringData(s)))
	here := uintptr(unsafe.Pointer(unsafe.StringData(got)))
	if here >= from && here < from+uintptr(len(s)) {
		t.Error("R3: the text that GetText tells lies in what it was given")
	}
}
