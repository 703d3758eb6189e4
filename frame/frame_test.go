package frame_test

import (
	"encoding/binary"
	"hash/crc32"
	"slices"
	"strings"
	"testing"
	"unsafe"

	"boomerang/api"
	"boomerang/crc"
	"boomerang/frame"
	"boomerang/vint"
)

// texts are ordinary ones, and those of the edges.
func texts() []string {
	l := []string{"", "a", "ab", "one", "two\nlines", "grüße", "\x00", "\x80", "\xff\xff\xff\xff", "\x00\x00\x00\x00\x00"}
	all := make([]byte, 256)
	for i := range all {
		all[i] = byte(i)
	}
	l = append(l, string(all), mustPut("a record in a record"))
	// The number ahead has one byte up to 63, and two from 64 on.
	for _, n := range []int{62, 63, 64, 65, 127, 128, 255, 257, api.MaxText - 1, api.MaxText} {
		l = append(l, strings.Repeat("\x00\xffxyz", n)[:n])
	}
	return l
}

func mustPut(s string) string {
	p, e := frame.Put(s)
	if e != api.OK {
		panic("3.1: no Put of a text that is short enough")
	}
	return p
}

func laid(l []string) string {
	all := ""
	for _, s := range l {
		all += mustPut(s)
	}
	return all
}

// slowPut says promise 3.1 again, of a text of at most MaxText bytes, with the
// library's sum of the same kind.
func slowPut(s string) string {
	p := []byte{}
	n := 2 * len(s)
	for ; n >= 128; n /= 128 {
		p = append(p, byte(n%128+128))
	}
	p = append(p, byte(n))
	p = append(p, s...)
	sum := crc32.Checksum([]byte(s), crc32.MakeTable(crc32.Castagnoli))
	return string(binary.LittleEndian.AppendUint32(p, sum))
}

func wantAll(t *testing.T, what, s string, l []string, used int, e api.Errno) {
	t.Helper()
	got, n, no := frame.All(s)
	if !slices.Equal(got, l) || n != used || no != e {
		t.Errorf("%s: All(%.40q), of %d bytes: %.40q (%d records), %d, %d; want %.40q (%d records), %d, %d",
			what, s, len(s), got, len(got), n, no, l, len(l), used, e)
	}
}

// wantBehind holds that bad tells e, behind no record and behind several.
func wantBehind(t *testing.T, what, bad string, e api.Errno) {
	t.Helper()
	for _, ahead := range [][]string{nil, {""}, {"one"}, {"one", "", "two", strings.Repeat("z", api.MaxText)}} {
		s := laid(ahead)
		wantAll(t, what, s+bad, ahead, len(s), e)
	}
}

func TestPutIsNumberTextAndSum(t *testing.T) {
	for s, want := range map[string]string{
		"":          "\x00\x00\x00\x00\x00",
		"a":         "\x02a\x30\x43\xd0\xc1",
		"123456789": "\x12123456789\x83\x92\x06\xe3",
	} {
		if got, e := frame.Put(s); got != want || e != api.OK {
			t.Errorf("3.1: Put(%q): %q, %d; want %q", s, got, e, want)
		}
	}
	for _, s := range texts() {
		got, e := frame.Put(s)
		if got != slowPut(s) || got != vint.Put(len(s))+crc.Put(s) || e != api.OK {
			t.Errorf("3.1: Put of %.20q, of %d bytes, has %d; the error %d", s, len(s), len(got), e)
		}
	}
}

func TestPutOfTooMuch(t *testing.T) {
	for _, n := range []int{api.MaxText + 1, api.MaxText + 2, 2 * api.MaxText, 1 << 20} {
		if got, e := frame.Put(strings.Repeat("x", n)); got != "" || e != api.ErrFull {
			t.Errorf("3.1: Put of %d bytes: %d bytes, %d; want ErrFull alone", n, len(got), e)
		}
	}
}

func TestAllOfNothing(t *testing.T) {
	wantAll(t, "3.2", "", nil, 0, api.OK)
}

func TestAllOfOne(t *testing.T) {
	for _, s := range texts() {
		p := slowPut(s)
		wantAll(t, "3.2", p, []string{s}, len(p), api.OK)
	}
}

func TestAllOfMany(t *testing.T) {
	l := texts()
	for k := range l {
		s := laid(l[k:])
		wantAll(t, "3.2", s, l[k:], len(s), api.OK)
	}
	// More than a list of MaxItems: no bound is named here.
	many := make([]string, 3*api.MaxItems)
	for i := range many {
		many[i] = strings.Repeat("m", i%7)
	}
	s := laid(many)
	wantAll(t, "3.2", s, many, len(s), api.OK)
	none := make([]string, 1000)
	wantAll(t, "3.2", strings.Repeat("\x00", 5000), none, 5000, api.OK)
}

func TestNoFormOfANumber(t *testing.T) {
	for _, bad := range []string{
		"\x80\x00",
		"\x82\x00",
		"\x80\x80\x00",
		strings.Repeat("\x80", 10),
		strings.Repeat("\xff", 10),
		strings.Repeat("\x80", 9) + "\x02",
		strings.Repeat("\x80", 11),
	} {
		for _, behind := range []string{"", "a", mustPut("a")} {
			wantBehind(t, "3.2: no form of a number", bad+behind, api.ErrForm)
		}
	}
}

func TestNumberBelowNought(t *testing.T) {
	for _, n := range []int{-1, -2, -4, -5, -64, -65, -api.MaxText, api.MinInt, -1 << 63} {
		for _, behind := range []string{"", "a", crc.Put(""), crc.Put("a"), strings.Repeat("x", 5000)} {
			wantBehind(t, "3.2: a number below 0", vint.Put(n)+behind, api.ErrForm)
		}
	}
}

func TestNumberAboveMaxText(t *testing.T) {
	for _, n := range []int{api.MaxText + 1, api.MaxText + 2, api.MaxInt, 1<<63 - 1, 1<<63 - 4, 1<<63 - 5} {
		for _, behind := range []string{"", "a", crc.Put(""), strings.Repeat("x", 5000)} {
			wantBehind(t, "3.2: a number above MaxText", vint.Put(n)+behind, api.ErrForm)
		}
	}
	long := strings.Repeat("x", api.MaxText+1)
	wantBehind(t, "3.2: a record that is too long, with its sum", vint.Put(len(long))+crc.Put(long), api.ErrForm)
}

func TestNumberThatIsCut(t *testing.T) {
	for n := 1; n < 10; n++ {
		wantBehind(t, "3.2: a number that is cut", strings.Repeat("\x80", n), api.ErrMore)
		wantBehind(t, "3.2: a number that is cut", strings.Repeat("\xff", n), api.ErrMore)
	}
}

func TestFewerBytes(t *testing.T) {
	for _, n := range []int{0, 1, 2, 63, 64, 100, api.MaxText} {
		for have := range n + 4 {
			bad := vint.Put(n) + strings.Repeat("x", have)
			s := mustPut("one")
			wantAll(t, "3.2: fewer bytes", s+bad, []string{"one"}, len(s), api.ErrMore)
		}
		wantBehind(t, "3.2: fewer bytes by one", vint.Put(n)+strings.Repeat("x", n+3), api.ErrMore)
		wantBehind(t, "3.2: enough bytes, and no sum", vint.Put(n)+strings.Repeat("x", n+4), api.ErrSum)
	}
}

func TestSumOfAnother(t *testing.T) {
	for _, s := range []string{"", "a", "123456789", strings.Repeat("y", api.MaxText)} {
		for _, other := range []string{"b", "12345678", "1234567890", "\x00"} {
			sum := crc.Put(other)[len(other):]
			for _, behind := range []string{"", "\x80\x00", mustPut("behind")} {
				wantBehind(t, "3.2: a sum of another", vint.Put(len(s))+s+sum+behind, api.ErrSum)
			}
		}
	}
	// The sum covers the text alone, not the number ahead of it.
	p := vint.Put(2) + "ab"
	wantBehind(t, "3.2: a sum of number and text", crc.Put(p), api.ErrSum)
}

func TestTurnedBits(t *testing.T) {
	for _, s := range []string{"", "a", "123456789"} {
		p := []byte(mustPut(s))
		from := len(p) - len(s) - 4
		for i := range 8 * len(p) {
			p[i/8] ^= 1 << (i % 8)
			l, used, e := frame.All(string(p))
			if len(l) != 0 || used != 0 || e == api.OK || i/8 >= from && e != api.ErrSum {
				t.Errorf("3.2: All of %q: %q, %d, %d; want an error alone", p, l, used, e)
			}
			p[i/8] ^= 1 << (i % 8)
		}
	}
}

// What is wrong behind the first thing that is wrong is not looked at, and no
// record behind it is told.
func TestTheFirstErrorCounts(t *testing.T) {
	good := mustPut("good")
	sum := good[:len(good)-1] + "\x00"
	form := vint.Put(-1)
	wantAll(t, "3.2: the sum ahead of the form", good+sum+form, []string{"good"}, len(good), api.ErrSum)
	wantAll(t, "3.2: the form ahead of the sum", good+form+sum, []string{"good"}, len(good), api.ErrForm)
	wantAll(t, "3.2: a good one behind", good+sum+good, []string{"good"}, len(good), api.ErrSum)
	wantAll(t, "3.2: a cut one behind", good+sum+good[:3], []string{"good"}, len(good), api.ErrSum)
	wantAll(t, "3.2: below 0, and cut", form+"x", nil, 0, api.ErrForm)
	wantAll(t, "3.2: above MaxText, and cut", vint.Put(api.MaxText+1), nil, 0, api.ErrForm)
}

func TestCutAtEachByte(t *testing.T) {
	last := []string{"", "a", "123456789", strings.Repeat("c", 64), strings.Repeat("d", api.MaxText)}
	for _, ahead := range [][]string{nil, {"one"}, {"", "two", strings.Repeat("e", 300), ""}} {
		whole := laid(ahead)
		for _, s := range last {
			p := mustPut(s)
			wantAll(t, "3.3: not cut at all", whole, ahead, len(whole), api.OK)
			for k := 1; k < len(p); k++ {
				wantAll(t, "3.3: a record that is cut", whole+p[:k], ahead, len(whole), api.ErrMore)
			}
			wantAll(t, "3.3: a whole record", whole+p, append(slices.Clone(ahead), s), len(whole)+len(p), api.OK)
		}
	}
}

func TestEachBeginning(t *testing.T) {
	l := []string{"", "one", "", "grüße", strings.Repeat("f", 63), strings.Repeat("g", 64), mustPut("in"), "\x80\x80"}
	all := laid(l)
	ends := map[int]int{0: 0}
	for k := range l {
		ends[len(laid(l[:k+1]))] = k + 1
	}
	whole, used := 0, 0
	for k := range len(all) + 1 {
		e := api.ErrMore
		if n, ok := ends[k]; ok {
			whole, used, e = n, k, api.OK
		}
		wantAll(t, "3.3: a beginning of records", all[:k], l[:whole], used, e)
	}
}

// All of what All says it used tells the same, without an error.
func TestWhatIsUsedIsWhole(t *testing.T) {
	for a := range 256 {
		for b := range 256 {
			s := mustPut("x") + string([]byte{byte(a), byte(b)}) + "\x00\x00\x00\x00\x00\x00"
			l, used, _ := frame.All(s)
			if used < 6 || used > len(s) || len(l) == 0 {
				t.Fatalf("3.2: All(%q): %q, %d", s, l, used)
			}
			wantAll(t, "3.2: what is used", s[:used], l, used, api.OK)
			if laid(l) != s[:used] {
				t.Errorf("3.2: the records of %q are not those of what they take", s)
			}
		}
	}
}

func TestAnswersAreNewMemory(t *testing.T) {
	s := laid([]string{"first", strings.Repeat("k", 100), "last"})
	l, _, _ := frame.All(s)
	from := uintptr(unsafe.Pointer(unsafe.StringData(s)))
	for _, r := range l {
		here := uintptr(unsafe.Pointer(unsafe.StringData(r)))
		if here >= from && here < from+uintptr(len(s)) {
			t.Errorf("R3: the record %.10q that All tells lies in what it was given", r)
		}
	}
	again, _, _ := frame.All(s)
	l = append(l, "more")
	l[0] = "turned"
	if again[0] != "first" || len(again) != 3 {
		t.Error("R3: two answers of All share memory")
	}
	wantAll(t, "R1: All once more", s, again, len(s), api.OK)
}
