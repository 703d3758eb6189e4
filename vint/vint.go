// Package vint: see DOC.md, chapter 1.
package vint

import (
	"strings"

	"boomerang/api"
)

// A number has 64 bits, a byte seven of them: no Put is longer.
const maxBytes = 10

// Put tells n in bytes.
func Put(n int) string {
	u := fold(n)
	b := make([]byte, 0, maxBytes)
	for ; u >= 128; u >>= 7 {
		b = append(b, byte(u)|128)
	}
	return string(append(b, byte(u)))
}

// Get tells the number whose Put stands at at, and the place behind it.
func Get(s string, at int) (n, next int, e api.Errno) {
	return read(s, at, func(n, next int) (int, int, api.Errno) {
		return n, next, api.OK
	})
}

// Text tells s with its length ahead of it.
func Text(s string) string {
	return Put(len(s)) + s
}

// GetText tells the text whose Text stands at at, and the place behind it.
func GetText(s string, at int) (t string, next int, e api.Errno) {
	return read(s, at, func(n, next int) (string, int, api.Errno) {
		if n < 0 || n > api.MaxText {
			return "", 0, api.ErrForm
		}
		if n > len(s)-next {
			return "", 0, api.ErrMore
		}
		// A mere piece of s would keep all of s alive.
		return strings.Clone(s[next : next+n]), next + n, api.OK
	})
}

// read goes from the number at at, and the place behind it, on by take: so what
// is wrong with a number counts ahead of what is wrong behind it, in both readers.
func read[T any](s string, at int, take func(n, next int) (T, int, api.Errno)) (t T, next int, e api.Errno) {
	if at < 0 || at > len(s) {
		return t, 0, api.ErrArg
	}
	u, next, e := folded(s, at)
	if e != api.OK {
		return t, 0, e
	}
	return take(unfold(u), next)
}

// folded tells the folded number at at. It looks at ten bytes at most, however
// long s is.
func folded(s string, at int) (u uint64, next int, e api.Errno) {
	for i := range maxBytes {
		if at+i == len(s) {
			return 0, 0, api.ErrMore
		}
		b := s[at+i]
		u |= uint64(b&127) << (7 * i)
		if b >= 128 {
			continue
		}
		if !mayEnd(b, i) {
			return 0, 0, api.ErrForm
		}
		return u, at + i + 1, api.OK
	}
	return 0, 0, api.ErrForm
}

// mayEnd tells whether b, below 128, may be the last byte of a Put with i bytes
// ahead of it: a nought there is one byte too many, and of the tenth byte only
// one bit has room in 64.
func mayEnd(b byte, i int) bool {
	if i > 0 && b == 0 {
		return false
	}
	return i < maxBytes-1 || b <= 1
}

// fold lays the numbers of both signs among those from 0 on, so that small ones
// stay small.
func fold(n int) uint64 {
	if n >= 0 {
		return 2 * uint64(n)
	}
	return -(2 * uint64(n)) - 1
}

func unfold(u uint64) int {
	half := int(u >> 1)
	if u%2 == 0 {
		return half
	}
	return -half - 1
}
