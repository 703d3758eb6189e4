package trace_test

import (
	"encoding/binary"
	"fmt"
	"hash/crc32"
	"math"
	"slices"
	"strings"
	"testing"
	"unsafe"

	"boomerang/api"
	"boomerang/frame"
	"boomerang/trace"
	"boomerang/vint"
)

// kinds are those of inputs, and what may be of each.
var kinds = []struct {
	kind     int
	from, to int
	text     bool
}{
	{api.HNow, api.MinInt, api.MaxInt, false},
	{api.HRand, api.MinInt, api.MaxInt, false},
	{api.HReply, 0, 0, true},
	{api.HEvent, 0, 0, true},
	{api.HTime, 0, api.MaxInt, false},
}

// steps are ordinary ones, and those of the edges.
var steps = []int{0, 1, 2, 63, 64, 8191, 8192, api.MaxInt, api.MaxInt + 1, 1 << 40, math.MaxInt - 1, math.MaxInt}

// numbers are those around each edge of a kind's, and of all numbers.
func numbers() []int {
	var l []int
	for _, n := range []int{0, 63, 64, -64, 1000, -8192, api.MinInt, api.MaxInt, 1 << 32, -1 << 32} {
		l = append(l, n-1, n, n+1)
	}
	return append(l, math.MinInt, math.MaxInt)
}

// texts are of ordinary bytes, and of the lengths around each edge.
func texts() []string {
	l := []string{"", "a", "\x00", "\xff\x80", "grüße", "two\nlines"}
	for _, n := range []int{63, 64, 127, 128, 1023, 1024, 1025, 2048, api.MaxText, api.MaxText + 1} {
		l = append(l, strings.Repeat("\x00\xffxyz", n)[:n])
	}
	return l
}

// slowMay says May's promise again, by the table of kinds.
func slowMay(i api.Input) bool {
	for _, k := range kinds {
		if k.kind == i.Kind {
			return i.N >= k.from && i.N <= k.to && (i.S == "" || k.text && len(i.S) <= 1024)
		}
	}
	return false
}

// inputs are those that may be, if may, else those that may not.
func inputs(may bool) []api.Input {
	var l []api.Input
	for _, kind := range []int{api.HNow, api.HRand, api.HReply, api.HEvent, api.HTime, api.HNow - 1, api.HTime + 1, -1, 257, 1<<32 + 1, math.MinInt, math.MaxInt} {
		for _, n := range numbers() {
			for _, s := range texts() {
				if i := (api.Input{Kind: kind, N: n, S: s}); slowMay(i) == may {
					l = append(l, i)
				}
			}
		}
	}
	return l
}

// of is a record with ordinary parts.
func of(step int) api.Record {
	return api.Record{Step: step, Input: api.Input{Kind: api.HNow, N: step % 100}}
}

// slowPut says again how a record stands in bytes, whether it may be or not,
// with the library's numbers of the same kind.
func slowPut(r api.Record) string {
	var p []byte
	for _, n := range []int{r.Step, r.Input.Kind, r.Input.N, len(r.Input.S)} {
		p = binary.AppendVarint(p, int64(n))
	}
	return string(p) + r.Input.S
}

// slowFrame says again how a text stands in a frame.
func slowFrame(s string) string {
	p := append(binary.AppendVarint(nil, int64(len(s))), s...)
	sum := crc32.Checksum([]byte(s), crc32.MakeTable(crc32.Castagnoli))
	return string(binary.LittleEndian.AppendUint32(p, sum))
}

// laid says again how records stand behind one another.
func laid(l ...api.Record) string {
	var all strings.Builder
	for _, r := range l {
		all.WriteString(slowFrame(slowPut(r)))
	}
	return all.String()
}

// ordinary are records of each kind, with Steps that stay and rise.
func ordinary() []api.Record {
	return []api.Record{
		{Step: 0, Input: api.Input{Kind: api.HNow, N: -7}},
		{Step: 0, Input: api.Input{Kind: api.HRand, N: api.MinInt}},
		{Step: 3, Input: api.Input{Kind: api.HReply, S: "hi"}},
		{Step: 3, Input: api.Input{Kind: api.HReply}},
		{Step: 3, Input: api.Input{Kind: api.HTime, N: 1000}},
		{Step: 64, Input: api.Input{Kind: api.HEvent, S: strings.Repeat("e", 70)}},
		{Step: 1 << 40, Input: api.Input{Kind: api.HEvent}},
		{Step: math.MaxInt, Input: api.Input{Kind: api.HTime, N: api.MaxInt}},
	}
}

// told tells r in a failure's words, not longer than one reads.
func told(r api.Record) string {
	return fmt.Sprintf("step %d, kind %d, %d, %.20q (%d bytes)", r.Step, r.Input.Kind, r.Input.N, r.Input.S, len(r.Input.S))
}

func wantNoRecord(t *testing.T, what, s string) {
	t.Helper()
	if r, e := trace.Get(s); r != (api.Record{}) || e != api.ErrForm {
		t.Errorf("4.1: %s: Get(%.40q), of %d bytes: %s, %d; want ErrForm alone", what, s, len(s), told(r), e)
	}
}

func wantDecode(t *testing.T, what, s string, l []api.Record, used int, e api.Errno) {
	t.Helper()
	got, n, no := trace.Decode(s)
	if !slices.Equal(got, l) || n != used || no != e {
		t.Errorf("%s: Decode(%.40q), of %d bytes: %d records, %d, %d; want %d records, %d, %d",
			what, s, len(s), len(got), n, no, len(l), used, e)
	}
}

// wantBehind holds that bad tells e behind no record and behind several,
// whatever stands behind it.
func wantBehind(t *testing.T, what, bad string, e api.Errno) {
	t.Helper()
	for _, ahead := range [][]api.Record{nil, ordinary()[:1], ordinary()[:6]} {
		s := laid(ahead...)
		for _, behind := range []string{"", "\x80", "\x01", laid(of(1 << 50)), laid(of(1<<50)) + "\x00"} {
			wantDecode(t, "4.2: "+what, s+bad+behind, ahead, len(s), e)
		}
	}
}

func wantNoEncode(t *testing.T, what string, l []api.Record) {
	t.Helper()
	if s, e := trace.Encode(l); s != "" || e != api.ErrArg {
		t.Errorf("4.2: %s: Encode of %d records: %d bytes, %d; want ErrArg alone", what, len(l), len(s), e)
	}
}

func TestMayAtTheEdges(t *testing.T) {
	long := strings.Repeat("x", 1024)
	for _, c := range []struct {
		what string
		in   api.Input
		want bool
	}{
		{"HNow at MinInt", api.Input{Kind: api.HNow, N: api.MinInt}, true},
		{"HNow below MinInt", api.Input{Kind: api.HNow, N: api.MinInt - 1}, false},
		{"HNow at MaxInt", api.Input{Kind: api.HNow, N: api.MaxInt}, true},
		{"HNow above MaxInt", api.Input{Kind: api.HNow, N: api.MaxInt + 1}, false},
		{"HNow with a text", api.Input{Kind: api.HNow, S: "x"}, false},
		{"HRand at MinInt", api.Input{Kind: api.HRand, N: api.MinInt}, true},
		{"HRand below MinInt", api.Input{Kind: api.HRand, N: api.MinInt - 1}, false},
		{"HRand at MaxInt", api.Input{Kind: api.HRand, N: api.MaxInt}, true},
		{"HRand above MaxInt", api.Input{Kind: api.HRand, N: api.MaxInt + 1}, false},
		{"HRand with a text", api.Input{Kind: api.HRand, N: 1, S: "\x00"}, false},
		{"HReply of nothing", api.Input{Kind: api.HReply}, true},
		{"HReply of 1024 bytes", api.Input{Kind: api.HReply, S: long}, true},
		{"HReply of 1025 bytes", api.Input{Kind: api.HReply, S: long + "x"}, false},
		{"HReply of 1024 runes", api.Input{Kind: api.HReply, S: strings.Repeat("ü", 1024)}, false},
		{"HReply with 1", api.Input{Kind: api.HReply, N: 1, S: "x"}, false},
		{"HReply with -1", api.Input{Kind: api.HReply, N: -1}, false},
		{"HEvent of nothing", api.Input{Kind: api.HEvent}, true},
		{"HEvent of 1024 bytes", api.Input{Kind: api.HEvent, S: long}, true},
		{"HEvent of 1025 bytes", api.Input{Kind: api.HEvent, S: long + "x"}, false},
		{"HEvent with 1", api.Input{Kind: api.HEvent, N: 1}, false},
		{"HEvent with -1", api.Input{Kind: api.HEvent, N: -1, S: "x"}, false},
		{"HTime at 0", api.Input{Kind: api.HTime}, true},
		{"HTime at -1", api.Input{Kind: api.HTime, N: -1}, false},
		{"HTime at MinInt", api.Input{Kind: api.HTime, N: api.MinInt}, false},
		{"HTime at MaxInt", api.Input{Kind: api.HTime, N: api.MaxInt}, true},
		{"HTime above MaxInt", api.Input{Kind: api.HTime, N: api.MaxInt + 1}, false},
		{"HTime with a text", api.Input{Kind: api.HTime, N: 1, S: "x"}, false},
		{"a kind below HNow", api.Input{Kind: api.HNow - 1}, false},
		{"a kind above HTime", api.Input{Kind: api.HTime + 1}, false},
	} {
		if got := trace.May(c.in); got != c.want {
			t.Errorf("4.1: May, %s: %v", c.what, got)
		}
	}
}

func TestMayOfAll(t *testing.T) {
	for _, may := range []bool{true, false} {
		for _, i := range inputs(may) {
			if trace.May(i) != may {
				t.Errorf("4.1: May of kind %d, %d, %d bytes: %v", i.Kind, i.N, len(i.S), !may)
			}
		}
	}
}

func TestPutKnownRecords(t *testing.T) {
	for want, r := range map[string]api.Record{
		"\x00\x02\x00\x00":                     {Step: 0, Input: api.Input{Kind: api.HNow}},
		"\x06\x04\x0d\x00":                     {Step: 3, Input: api.Input{Kind: api.HRand, N: -7}},
		"\x80\x01\x06\x00\x04hi":               {Step: 64, Input: api.Input{Kind: api.HReply, S: "hi"}},
		"\x02\x08\x00\x02\xff":                 {Step: 1, Input: api.Input{Kind: api.HEvent, S: "\xff"}},
		"\x0a\x0a\xfe\xff\xff\xff\x0f\x00":     {Step: 5, Input: api.Input{Kind: api.HTime, N: api.MaxInt}},
		"\x0a\x02\xff\xff\xff\xff\x0f\x00":     {Step: 5, Input: api.Input{Kind: api.HNow, N: api.MinInt}},
		"\x80\x80\x80\x80\x10\x0a\xd0\x0f\x00": {Step: 1 << 31, Input: api.Input{Kind: api.HTime, N: 1000}},
	} {
		if got, e := trace.Put(r); got != want || e != api.OK {
			t.Errorf("4.1: Put(%s): %q, %d; want %q", told(r), got, e, want)
		}
		if got, e := trace.Get(want); got != r || e != api.OK {
			t.Errorf("4.1: Get(%q): %s, %d; want %s", want, told(got), e, told(r))
		}
	}
}

func TestPutAndGetOfAll(t *testing.T) {
	for _, i := range inputs(true) {
		for _, step := range steps {
			r := api.Record{Step: step, Input: i}
			s, e := trace.Put(r)
			parts := vint.Put(step) + vint.Put(i.Kind) + vint.Put(i.N) + vint.Text(i.S)
			if s != slowPut(r) || s != parts || e != api.OK {
				t.Fatalf("4.1: Put(%s): %.40q, %d", told(r), s, e)
			}
			if got, e := trace.Get(s); got != r || e != api.OK {
				t.Fatalf("4.1: Get of Put(%s): %s, %d", told(r), told(got), e)
			}
		}
	}
}

func TestPutOfWhatMayNotBe(t *testing.T) {
	var l []api.Record
	for _, i := range inputs(false) {
		l = append(l, api.Record{Step: 5, Input: i}, api.Record{Step: -1, Input: i})
	}
	for _, step := range []int{-1, -2, -64, api.MinInt, math.MinInt, math.MinInt + 1} {
		for _, r := range ordinary() {
			l = append(l, api.Record{Step: step, Input: r.Input})
		}
	}
	for _, r := range l {
		if s, e := trace.Put(r); s != "" || e != api.ErrArg {
			t.Errorf("4.1: Put(%s): %.40q, %d; want ErrArg alone", told(r), s, e)
		}
		wantNoRecord(t, "a record that may not be", slowPut(r))
	}
}

func TestGetOfOneByteMoreOrLess(t *testing.T) {
	for _, r := range ordinary() {
		p := slowPut(r)
		for k := range len(p) {
			wantNoRecord(t, "cut", p[:k])
		}
		for b := range 256 {
			wantNoRecord(t, "a byte more", p+string([]byte{byte(b)}))
		}
		for k := 1; k <= len(p); k++ {
			if got, e := trace.Get(p[k:]); e == api.OK && slowPut(got) != p[k:] {
				t.Errorf("4.1: Get(%q): %s, whose Put it is not", p[k:], told(got))
			}
		}
		wantNoRecord(t, "two records", p+p)
		wantNoRecord(t, "many bytes more", p+strings.Repeat("\x00", 5000))
	}
}

func TestGetOfNumbersThatAreNone(t *testing.T) {
	for what, s := range map[string]string{
		"nothing":                    "",
		"a Step with a nought":       "\x80\x00\x02\x00\x00",
		"a kind with a nought":       "\x00\x82\x00\x00\x00",
		"a number with a nought":     "\x00\x02\x80\x00\x00",
		"a length with a nought":     "\x00\x02\x00\x80\x00",
		"a Step without end":         strings.Repeat("\xff", 12),
		"a kind without end":         "\x00" + strings.Repeat("\x80", 12),
		"a number without end":       "\x00\x02" + strings.Repeat("\x80", 12),
		"a length without end":       "\x00\x06\x00" + strings.Repeat("\x80", 12),
		"a length below 0":           "\x00\x06\x00\x01",
		"a length below 0, a text":   "\x00\x06\x00\x03ab",
		"a length that is too great": "\x00\x06\x00\x06ab",
		"a length that is too small": "\x00\x06\x00\x02ab",
		"a length above MaxText":     "\x00\x06\x00" + vint.Text(strings.Repeat("x", api.MaxText+1)),
		"a length of 1025":           "\x00\x06\x00" + vint.Text(strings.Repeat("x", 1025)),
		"the parts of a text":        "hello",
	} {
		wantNoRecord(t, what, s)
		if len(s) <= api.MaxText {
			wantBehind(t, what, slowFrame(s), api.ErrForm)
		}
	}
}

// slowGet says Get's promise again: it takes what the library reads, and asks
// whether that may be, and has s as its bytes.
func slowGet(s string) (api.Record, api.Errno) {
	var n [4]int
	rest := []byte(s)
	for i := range n {
		v, size := binary.Varint(rest)
		if size <= 0 {
			return api.Record{}, api.ErrForm
		}
		n[i], rest = int(v), rest[size:]
	}
	r := api.Record{Step: n[0], Input: api.Input{Kind: n[1], N: n[2], S: string(rest)}}
	if n[0] < 0 || slowPut(r) != s || !slowMay(r.Input) {
		return api.Record{}, api.ErrForm
	}
	return r, api.OK
}

func TestGetOfShortBytes(t *testing.T) {
	edges := "\x00\x01\x02\x04\x06\x08\x0a\x0c\x7f\x80\xff"
	heads, found := []string{""}, 0
	for range 6 {
		var longer []string
		for _, h := range heads {
			got, e := trace.Get(h)
			want, no := slowGet(h)
			if got != want || e != no {
				t.Fatalf("4.1: Get(%q): %s, %d; want %s, %d", h, told(got), e, told(want), no)
			}
			if e == api.OK {
				found++
			}
			for i := range len(edges) {
				longer = append(longer, h+edges[i:i+1])
			}
		}
		heads = longer
	}
	if found == 0 {
		t.Error("4.1: no record among the short bytes")
	}
}

func TestEncodeIsFrameByFrame(t *testing.T) {
	l := ordinary()
	for k := range len(l) + 1 {
		want := ""
		for _, r := range l[:k] {
			p, _ := trace.Put(r)
			f, _ := frame.Put(p)
			want += f
		}
		got, e := trace.Encode(l[:k])
		if got != want || got != laid(l[:k]...) || e != api.OK {
			t.Errorf("4.2: Encode of %d records: %q, %d; want %q", k, got, e, want)
		}
	}
}

func TestOfNone(t *testing.T) {
	for _, l := range [][]api.Record{nil, {}} {
		if s, e := trace.Encode(l); s != "" || e != api.OK {
			t.Errorf("4.2: Encode of none: %q, %d", s, e)
		}
	}
	wantDecode(t, "4.2: nothing", "", nil, 0, api.OK)
}

func TestStepsThatStayRiseAndFall(t *testing.T) {
	for _, c := range []struct {
		steps []int
		whole int
	}{
		{[]int{0}, 1},
		{[]int{0, 0, 0}, 3},
		{[]int{5, 5}, 2},
		{[]int{0, 1, 2, 2, 9}, 5},
		{[]int{0, math.MaxInt, math.MaxInt}, 3},
		{[]int{1, 0}, 1},
		{[]int{5, 4}, 1},
		{[]int{0, 5, 5, 4, 5}, 3},
		{[]int{0, 5, 0, 6}, 2},
		{[]int{math.MaxInt, 0}, 1},
		{[]int{math.MaxInt - 1, math.MaxInt, math.MaxInt - 1}, 2},
		{[]int{9, 8, 7, 6}, 1},
	} {
		var l []api.Record
		for _, step := range c.steps {
			l = append(l, of(step))
		}
		ahead, e := l[:c.whole], api.OK
		if c.whole < len(l) {
			e = api.ErrForm
			wantNoEncode(t, "Steps that fall", l)
		} else if s, no := trace.Encode(l); s != laid(l...) || no != api.OK {
			t.Errorf("4.2: Encode of the Steps %v: %d bytes, %d", c.steps, len(s), no)
		}
		wantDecode(t, "4.2: Steps", laid(l...), ahead, len(laid(ahead...)), e)
	}
}

func TestEncodeOfWhatMayNotBe(t *testing.T) {
	for _, i := range inputs(false) {
		bad := api.Record{Step: 7, Input: i}
		wantNoEncode(t, "the only one", []api.Record{bad})
		wantNoEncode(t, "the last one", []api.Record{of(1), of(7), bad})
		wantNoEncode(t, "one between", []api.Record{of(1), bad, of(8)})
	}
	for _, step := range []int{-1, math.MinInt} {
		bad := api.Record{Step: step, Input: api.Input{Kind: api.HNow}}
		wantNoEncode(t, "a Step below 0", []api.Record{bad})
		wantNoEncode(t, "a Step below 0, between", []api.Record{of(0), bad, of(1)})
		wantNoEncode(t, "a Step below 0, twice", []api.Record{bad, bad})
	}
}

func TestDecodeOfWhatMayNotBe(t *testing.T) {
	for _, i := range inputs(false) {
		bad := api.Record{Step: 1 << 40, Input: i}
		if p := slowPut(bad); len(p) <= api.MaxText {
			wantBehind(t, "an input that may not be", slowFrame(p), api.ErrForm)
		}
	}
	for _, step := range []int{-1, -2, api.MinInt, math.MinInt} {
		wantBehind(t, "a Step below 0", laid(api.Record{Step: step, Input: api.Input{Kind: api.HNow}}), api.ErrForm)
	}
}

func TestDecodeOfFramesThatAreNoRecords(t *testing.T) {
	for _, r := range ordinary() {
		p := slowPut(r)
		for k := range len(p) {
			wantBehind(t, "a frame of a cut record", slowFrame(p[:k]), api.ErrForm)
		}
		wantBehind(t, "a frame of a record and a byte", slowFrame(p+"\x00"), api.ErrForm)
		wantBehind(t, "a frame of two records", slowFrame(p+p), api.ErrForm)
		wantBehind(t, "a frame of a frame", slowFrame(slowFrame(p)), api.ErrForm)
	}
	wantBehind(t, "a frame of nothing", "\x00\x00\x00\x00\x00", api.ErrForm)
	wantBehind(t, "a frame of MaxText bytes", slowFrame(strings.Repeat("\x00", api.MaxText)), api.ErrForm)
}

// What All finds wrong is told as All tells it.
func TestDecodeOfBytesThatAreNoFrames(t *testing.T) {
	good := slowFrame(slowPut(of(1 << 45)))
	wantBehind(t, "no form of a number", "\x80\x00", api.ErrForm)
	wantBehind(t, "a length below 0", "\x01\x00\x00\x00\x00", api.ErrForm)
	wantBehind(t, "a length above MaxText", vint.Put(api.MaxText+1), api.ErrForm)
	wantBehind(t, "a sum of another", good[:len(good)-1]+string([]byte{good[len(good)-1] ^ 1}), api.ErrSum)
}

// What is wrong behind the first thing that is wrong does not count, whether
// it is All's or Get's.
func TestTheFirstErrorCounts(t *testing.T) {
	a, b := of(5), of(6)
	good := laid(a, b)
	sum := good[:len(good)-1] + string([]byte{good[len(good)-1] ^ 1})
	one := laid(a)
	more := laid(b)[:4]
	form := slowFrame("no record")
	for _, c := range []struct {
		what string
		s    string
		l    []api.Record
		used int
		e    api.Errno
	}{
		{"a form, a sum", form + sum, nil, 0, api.ErrForm},
		{"a sum, a form", sum + form, []api.Record{a}, len(one), api.ErrSum},
		{"a form, a cut", one + form + more, []api.Record{a}, len(one), api.ErrForm},
		{"a cut", one + more, []api.Record{a}, len(one), api.ErrMore},
		{"a fall, a sum", good + one + sum, []api.Record{a, b}, len(good), api.ErrForm},
		{"a fall, a cut", good + one + more, []api.Record{a, b}, len(good), api.ErrForm},
		{"good ones, a cut", good + laid(b) + more, []api.Record{a, b, b}, len(good) + len(laid(b)), api.ErrMore},
		{"a fall, a good one", good + one + good, []api.Record{a, b}, len(good), api.ErrForm},
		{"a form, a good one", one + form + laid(b), []api.Record{a}, len(one), api.ErrForm},
	} {
		wantDecode(t, "4.2: "+c.what, c.s, c.l, c.used, c.e)
	}
}

func TestCutAtEachPlace(t *testing.T) {
	l := ordinary()
	all := laid(l...)
	whole, used := 0, 0
	for k := range len(all) + 1 {
		e := api.ErrMore
		if k == used {
			e = api.OK
		}
		if whole < len(l) && k == len(laid(l[:whole+1]...)) {
			whole, used, e = whole+1, k, api.OK
		}
		wantDecode(t, "4.2: cut", all[:k], l[:whole], used, e)
	}
}

func TestTurnedBytes(t *testing.T) {
	l := ordinary()
	used := 0
	for n, r := range l {
		p := slowFrame(slowPut(r))
		text := len(p) - len(slowPut(r)) - 4
		for k := range p {
			turned := []byte(laid(l...))
			for bit := range 8 {
				turned[used+k] ^= 1 << bit
				got, size, e := trace.Decode(string(turned))
				if !slices.Equal(got, l[:n]) || size != used || e == api.OK || k >= text && e != api.ErrSum {
					t.Errorf("4.2: record %d, byte %d turned: %d records, %d, %d", n, k, len(got), size, e)
				}
				turned[used+k] ^= 1 << bit
			}
		}
		used += len(p)
	}
}

func TestDecodeOfEncode(t *testing.T) {
	lists := [][]api.Record{nil, ordinary()}
	may := inputs(true)
	for _, i := range may {
		for _, step := range steps {
			lists = append(lists, []api.Record{{Step: step, Input: i}})
		}
	}
	var long []api.Record
	for k := range 20 * len(may) {
		long = append(long, api.Record{Step: k / 3 * (k / 3), Input: may[k%len(may)]})
	}
	for _, l := range append(lists, long) {
		s, e := trace.Encode(l)
		got, used, no := trace.Decode(s)
		if !slices.Equal(got, l) || used != len(s) || e != api.OK || no != api.OK {
			t.Fatalf("4.3: Decode of Encode of %d records: %d records, %d of %d bytes, %d, %d", len(l), len(got), used, len(s), e, no)
		}
	}
}

// Encode of what Decode tells is what it says it used.
func TestEncodeOfDecode(t *testing.T) {
	good := laid(ordinary()[:3]...)
	for a := range 256 {
		for b := range 256 {
			s := good + slowFrame(string([]byte{byte(a), byte(b), 0, 0})) + good
			l, used, _ := trace.Decode(s)
			if again, e := trace.Encode(l); used < len(good) || again != s[:used] || e != api.OK {
				t.Fatalf("4.3: Decode(%q): %d records, %d", s, len(l), used)
			}
		}
	}
}

func TestAnswersAreNewMemory(t *testing.T) {
	r := api.Record{Step: 1, Input: api.Input{Kind: api.HReply, S: strings.Repeat("k", 100)}}
	list := []api.Record{r, r}
	s, _ := trace.Encode(list)
	if !slices.Equal(list, []api.Record{r, r}) {
		t.Error("R3: Encode changed what it was given")
	}
	l, _, _ := trace.Decode(s)
	p, _ := trace.Put(r)
	got, _ := trace.Get(p)
	if within(l[0].Input.S, s) || within(l[1].Input.S, s) || within(got.Input.S, p) || within(l[0].Input.S, l[1].Input.S) {
		t.Error("R3: a text lies in what was given, or in another")
	}
	again, _, _ := trace.Decode(s)
	l = append(l, of(9))
	l[0] = of(8)
	if !slices.Equal(again, []api.Record{r, r}) {
		t.Error("R3: two answers of Decode share memory")
	}
	wantDecode(t, "R1: Decode once more", s, again, len(s), api.OK)
}

// within tells whether a lies in the memory of b.
func within(a, b string) bool {
	from := uintptr(unsafe.Pointer(unsafe.StringData(b)))
	here := uintptr(unsafe.Pointer(unsafe.StringData(a)))
	return here >= from && here < from+uintptr(len(b))
}
