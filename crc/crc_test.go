package crc_test

import (
	"hash/crc32"
	"slices"
	"strings"
	"testing"
	"unsafe"

	"boomerang/api"
	"boomerang/crc"
)

// known are texts with their sums, as they are told elsewhere.
func known() map[string]uint32 {
	rising := make([]byte, 32)
	for i := range rising {
		rising[i] = byte(i)
	}
	falling := slices.Clone(rising)
	slices.Reverse(falling)
	return map[string]uint32{
		"":                         0,
		"a":                        0xc1d04330,
		"abc":                      0x364b3fb7,
		"123456789":                3808858755,
		strings.Repeat("\x00", 32): 0x8a9136aa,
		strings.Repeat("\xff", 32): 0x62a8ab43,
		string(rising):             0x46dd794e,
		string(falling):            0x113fdb5c,
		"The quick brown fox jumps over the lazy dog": 0x22620404,
	}
}

// texts are ordinary ones, and those of the edges.
func texts() []string {
	l := []string{"", "a", "ab", "abc", "abcd", "abcde", "123456789", "grüße", "two\nlines", "\x00\x00\x00\x00"}
	all := make([]byte, 256)
	for i := range all {
		all[i] = byte(i)
		l = append(l, string(all[i:i+1]), strings.Repeat(string(all[i:i+1]), 5))
	}
	l = append(l, string(all), crc.Put("a text with its sum"))
	for _, n := range []int{255, 257, api.MaxText, api.MaxText + 1, 1 << 20} {
		l = append(l, strings.Repeat("\x00\xffxyz", n)[:n])
	}
	return l
}

// slowSum says the promise again, bit by bit.
func slowSum(s string) uint32 {
	n := uint32(1<<32 - 1)
	for _, b := range []byte(s) {
		n ^= uint32(b)
		for range 8 {
			odd := n%2 == 1
			n /= 2
			if odd {
				n ^= 2197175160
			}
		}
	}
	return 1<<32 - 1 - n
}

func slowPut(s string) string {
	n := slowSum(s)
	for range 4 {
		s += string([]byte{byte(n % 256)})
		n /= 256
	}
	return s
}

func wantError(t *testing.T, s string, want api.Errno) {
	t.Helper()
	if got, e := crc.Get(s); got != "" || e != want {
		t.Errorf("2.2: Get(%.40q), of %d bytes: %.40q, %d; want the error %d alone", s, len(s), got, e, want)
	}
}

func TestSumOfTheNineDigits(t *testing.T) {
	if n := crc.Sum("123456789"); n != 3808858755 {
		t.Errorf("2.3: Sum of 123456789: %d", n)
	}
}

func TestSumOfKnownTexts(t *testing.T) {
	for s, want := range known() {
		if got := crc.Sum(s); got != want {
			t.Errorf("2.1: Sum(%q): %d; want %d", s, got, want)
		}
	}
}

func TestSumBitByBit(t *testing.T) {
	other := crc32.MakeTable(crc32.Castagnoli)
	for _, s := range texts() {
		if got, want := crc.Sum(s), slowSum(s); got != want || got != crc32.Checksum([]byte(s), other) {
			t.Errorf("2.1: Sum of %.20q, of %d bytes: %d; want %d", s, len(s), got, want)
		}
	}
}

func TestSumOfAllPairs(t *testing.T) {
	for a := range 256 {
		for b := range 256 {
			s := string([]byte{byte(a), byte(b)})
			if got, want := crc.Sum(s), slowSum(s); got != want {
				t.Fatalf("2.1: Sum(%q): %d; want %d", s, got, want)
			}
		}
	}
}

func TestSumIsTheSameAgain(t *testing.T) {
	for _, s := range texts() {
		if first, again := crc.Sum(s), crc.Sum(s); first != again {
			t.Errorf("R1: Sum of %.20q: %d, then %d", s, first, again)
		}
	}
}

func TestPutIsTextAndSum(t *testing.T) {
	for s, want := range map[string]string{
		"":          "\x00\x00\x00\x00",
		"a":         "a\x30\x43\xd0\xc1",
		"123456789": "123456789\x83\x92\x06\xe3",
	} {
		if got := crc.Put(s); got != want {
			t.Errorf("2.2: Put(%q): %q; want %q", s, got, want)
		}
	}
	for _, s := range texts() {
		if got := crc.Put(s); got != slowPut(s) {
			t.Errorf("2.2: Put of %.20q, of %d bytes, has %d", s, len(s), len(got))
		}
	}
}

func TestGetOfPut(t *testing.T) {
	for _, s := range texts() {
		for _, p := range []string{crc.Put(s), slowPut(s)} {
			if got, e := crc.Get(p); got != s || e != api.OK {
				t.Errorf("2.2: Get of Put of %.20q, of %d bytes: %.20q, %d", s, len(s), got, e)
			}
		}
	}
}

func TestGetTakesOneSumAway(t *testing.T) {
	p := crc.Put("twice")
	if got, e := crc.Get(crc.Put(p)); got != p || e != api.OK {
		t.Errorf("2.2: Get of Put of Put: %q, %d; want %q", got, e, p)
	}
}

func TestFewerThanFourBytes(t *testing.T) {
	for _, s := range []string{"", "\x00", "\x00\x00", "\x00\x00\x00", "a", "ab", "abc", "\xff\xff\xff"} {
		wantError(t, s, api.ErrMore)
	}
}

func TestFourBytes(t *testing.T) {
	if got, e := crc.Get("\x00\x00\x00\x00"); got != "" || e != api.OK {
		t.Errorf("2.2: Get of the Put of nothing: %q, %d", got, e)
	}
	for _, s := range []string{"abcd", "\x00\x00\x00\x01", "\x01\x00\x00\x00", "\xff\xff\xff\xff"} {
		wantError(t, s, api.ErrSum)
	}
}

func TestSumOfAnother(t *testing.T) {
	for _, s := range []string{"", "a", "123456789"} {
		for _, other := range []string{"b", "12345678", "1234567890", "\x00"} {
			p := crc.Put(other)
			wantError(t, s+p[len(other):], api.ErrSum)
		}
	}
}

func TestSumTheOtherWayRound(t *testing.T) {
	for _, s := range []string{"a", "123456789"} {
		n := slowSum(s)
		wantError(t, s+string([]byte{byte(n >> 24), byte(n >> 16), byte(n >> 8), byte(n)}), api.ErrSum)
		n = ^n
		wantError(t, s+string([]byte{byte(n), byte(n >> 8), byte(n >> 16), byte(n >> 24)}), api.ErrSum)
	}
}

// One bit, and two of them: a sum of 32 bits tells all of these apart.
func TestTurnedBits(t *testing.T) {
	for _, s := range []string{"", "a", "123456789", "\x00\x00\x00"} {
		p := []byte(crc.Put(s))
		for i := range 8 * len(p) {
			p[i/8] ^= 1 << (i % 8)
			wantError(t, string(p), api.ErrSum)
			for k := range i {
				p[k/8] ^= 1 << (k % 8)
				wantError(t, string(p), api.ErrSum)
				p[k/8] ^= 1 << (k % 8)
			}
			p[i/8] ^= 1 << (i % 8)
		}
	}
}

func TestCutAndLonger(t *testing.T) {
	for _, s := range []string{"a", "123456789", "grüße"} {
		p := crc.Put(s)
		for k := range len(p) {
			want := api.ErrSum
			if k < 4 {
				want = api.ErrMore
			}
			wantError(t, p[:k], want)
		}
		wantError(t, p[1:], api.ErrSum)
		wantError(t, p+"\x00", api.ErrSum)
		wantError(t, "\x00"+p, api.ErrSum)
	}
}

func TestTextIsNewMemory(t *testing.T) {
	s := crc.Put(strings.Repeat("k", 100))
	got, _ := crc.Get(s)
	from := uintptr(unsafe.Pointer(unsafe.StringData(s)))
	here := uintptr(unsafe.Pointer(unsafe.StringData(got)))
	if here >= from && here < from+uintptr(len(s)) {
		t.Error("R3: the text that Get tells lies in what it was given")
	}
}
