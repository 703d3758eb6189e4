package pages_test

import (
	"math"
	"slices"
	"testing"
	"unsafe"

	"boomerang/api"
	"boomerang/pages"
)

// One page, for short.
const page = api.PageSize

// cell is one that n alone says; each part of it differs from that of another n.
func cell(n int) api.Cell {
	return api.Cell{
		Kind: api.CObj, A: n, B: -n,
		Keys: []string{"k", string(rune('a' + n%26))},
		Vals: []api.Value{{Kind: api.VNum, N: n}, {Kind: api.VStr, S: "text"}},
	}
}

// same holds cells against one another; a nil list and an empty one are one.
func same(a, b api.Cell) bool {
	return a.Kind == b.Kind && a.A == b.A && a.B == b.B && slices.Equal(a.Keys, b.Keys) && slices.Equal(a.Vals, b.Vals)
}

// numbers are those from from on, n of them.
func numbers(from, n int) []int {
	var l []int
	for i := range n {
		l = append(l, from+i)
	}
	return l
}

// filled is a book of the cells 0, 1, .., n of them.
func filled(t *testing.T, n int) *pages.Book {
	t.Helper()
	b := pages.New()
	for i := range n {
		wantAdd(t, "filled", b, i, i)
	}
	return b
}

// wantAdd adds cell n, which has place at then.
func wantAdd(t *testing.T, what string, b *pages.Book, n, at int) {
	t.Helper()
	if got, e := b.Add(cell(n)); got != at || e != api.OK {
		t.Fatalf("5.1: %s: Add: %d, %d; want %d", what, got, e, at)
	}
}

// wantSet makes cell n that of place i.
func wantSet(t *testing.T, what string, b *pages.Book, i, n int) {
	t.Helper()
	if e := b.Set(i, cell(n)); e != api.OK {
		t.Fatalf("5.1: %s: Set of %d: %d", what, i, e)
	}
}

// wantCells holds that b has the cells ns, and no more.
func wantCells(t *testing.T, what string, b *pages.Book, ns []int) {
	t.Helper()
	if b.Len() != len(ns) {
		t.Errorf("%s: Len is %d; want %d", what, b.Len(), len(ns))
	}
	for i, n := range ns {
		if c, e := b.Get(i); !same(c, cell(n)) || e != api.OK {
			t.Errorf("%s: Get of %d: %v, %d; want the cell %d", what, i, c, e, n)
		}
	}
	wantNoCell(t, what, b, len(ns))
	wantNoCell(t, what, b, -1)
}

// wantNoCell holds that there is no cell i, to be got or to be set.
func wantNoCell(t *testing.T, what string, b *pages.Book, i int) {
	t.Helper()
	if c, e := b.Get(i); !same(c, api.Cell{}) || e != api.ErrNone {
		t.Errorf("%s: Get of %d: %v, %d; want ErrNone alone", what, i, c, e)
	}
	if e := b.Set(i, cell(77)); e != api.ErrNone {
		t.Errorf("%s: Set of %d: %d; want ErrNone", what, i, e)
	}
}

// wantLive holds that each of books tells n.
func wantLive(t *testing.T, what string, n int, books ...*pages.Book) {
	t.Helper()
	for i, b := range books {
		if b.Live() != n {
			t.Errorf("5.2: %s: Live of book %d is %d; want %d", what, i, b.Live(), n)
		}
	}
}

// wantNone holds that b has nothing, and tells so by each call.
func wantNone(t *testing.T, what string, b *pages.Book) {
	t.Helper()
	live := b.Live()
	for _, i := range []int{math.MinInt, -1, 0, 1, page, math.MaxInt} {
		wantNoCell(t, what, b, i)
	}
	if at, e := b.Add(cell(1)); at != 0 || e != api.ErrNone {
		t.Errorf("5.2: %s: Add: %d, %d; want ErrNone alone", what, at, e)
	}
	if b.Len() != 0 {
		t.Errorf("5.2: %s: Len is %d", what, b.Len())
	}
	if b.Mark() != nil {
		t.Errorf("5.2: %s: there is a Mark", what)
	}
	b.Drop()
	wantLive(t, what, live, b)
}

// sizes are numbers of cells, around each edge of the first pages.
func sizes() []int {
	return []int{0, 1, 2, page - 1, page, page + 1, 2*page - 1, 2 * page, 2*page + 1, 5 * page, 5*page + 3}
}

// pagesOf says how many pages n cells take.
func pagesOf(n int) int {
	return int(math.Ceil(float64(n) / page))
}

func TestNew(t *testing.T) {
	b := pages.New()
	if b == nil {
		t.Fatal("5: New is nil")
	}
	wantLive(t, "the example", 0, b)
	wantCells(t, "5.1: a book of no cells", b, nil)
	wantNoCell(t, "5.1: a book of no cells", b, 1)
}

func TestAddGetAndSet(t *testing.T) {
	for _, n := range sizes() {
		b := filled(t, n)
		wantCells(t, "5.1: added", b, numbers(0, n))
		wantLive(t, "added", pagesOf(n), b)
		for i := range n {
			wantSet(t, "one by one", b, i, 100+i)
			wantCells(t, "5.1: set", b, append(numbers(100, i+1), numbers(i+1, n-i-1)...))
		}
		for i := range n {
			wantSet(t, "once more", b, i, 200+i)
		}
		wantAdd(t, "behind what was set", b, 200+n, n)
		wantCells(t, "5.1: set again", b, numbers(200, n+1))
		wantLive(t, "set", pagesOf(n+1), b)
	}
}

// Each part of a cell is kept, also where it is such as no machine makes.
func TestCellsOfEveryForm(t *testing.T) {
	cells := []api.Cell{
		{},
		{Kind: -1, A: math.MinInt, B: math.MaxInt},
		{Kind: api.CFun, A: 3, B: 9},
		{Keys: []string{""}},
		{Vals: []api.Value{{}}},
		{Kind: api.CArr, Keys: []string{}, Vals: []api.Value{}},
		{Kind: api.CObj, Keys: []string{"a", "a", "\xff"}, Vals: []api.Value{{Kind: 99, N: -1, S: "\x00"}}},
		{Kind: api.CScope, Vals: slices.Repeat([]api.Value{{Kind: api.VHole}}, api.MaxItems+1)},
	}
	b, c := pages.New(), filled(t, len(cells))
	for i, x := range cells {
		if at, e := b.Add(x); at != i || e != api.OK {
			t.Errorf("5.1: Add: %d, %d; want %d", at, e, i)
		}
		if e := c.Set(i, x); e != api.OK {
			t.Errorf("5.1: Set: %d", e)
		}
	}
	for i, x := range cells {
		y, e := b.Get(i)
		z, no := c.Get(i)
		if !same(x, y) || !same(x, z) || e != api.OK || no != api.OK {
			t.Errorf("5.1: form %d: %d, %d, or another cell", i, e, no)
		}
	}
}

func TestPlacesThatThereAreNot(t *testing.T) {
	for _, n := range sizes() {
		b := filled(t, n)
		for _, i := range []int{-1, -2, -page, -n, -n - 1, n, n + 1, n + page, api.MaxCells - 1, api.MaxCells, 1 << 32, 1 << 40, -1 << 32, math.MaxInt, math.MinInt} {
			if i >= 0 && i < n {
				continue
			}
			wantNoCell(t, "5.1: no such place", b, i)
		}
		wantCells(t, "5.1: behind wrong places", b, numbers(0, n))
		wantLive(t, "behind wrong places", pagesOf(n), b)
	}
}

func TestFull(t *testing.T) {
	b := filled(t, api.MaxCells-1)
	m := b.Mark()
	for _, c := range []*pages.Book{b, m} {
		wantAdd(t, "the last one", c, 5000, api.MaxCells-1)
		for range 3 {
			if at, e := c.Add(cell(1)); at != 0 || e != api.ErrFull {
				t.Errorf("5.1: one more than MaxCells: %d, %d; want ErrFull alone", at, e)
			}
		}
	}
	want := append(numbers(0, api.MaxCells-1), 5000)
	wantCells(t, "5.1: full", b, want)
	wantCells(t, "5.1: full", m, want)
	wantLive(t, "full", api.MaxCells/page+1, b, m)
	wantSet(t, "full", b, api.MaxCells-1, 6000)
	wantSet(t, "full", b, 0, 7000)
	want[0], want[len(want)-1] = 7000, 6000
	wantCells(t, "5.1: full, set", b, want)
	wantNoCell(t, "5.1: full", b, api.MaxCells)
	b.Drop()
	wantNone(t, "full, dropped", b)
}

// What can't be added has no page of its own: a full book shares all of them yet.
func TestFullAndShared(t *testing.T) {
	b := filled(t, api.MaxCells)
	m := b.Mark()
	if at, e := m.Add(cell(1)); at != 0 || e != api.ErrFull {
		t.Errorf("5.1: a Mark of MaxCells: %d, %d; want ErrFull alone", at, e)
	}
	wantLive(t, "nothing was added", api.MaxCells/page, b, m)
}

func TestTwoThatDoNotComeOfOneAnother(t *testing.T) {
	a, b := filled(t, page+1), filled(t, page+1)
	m := a.Mark()
	m.Set(0, cell(100))
	wantLive(t, "the one", 3, a, m)
	wantLive(t, "the other one", 2, b)
	b.Set(1, cell(200))
	b.Add(cell(201))
	a.Drop()
	wantCells(t, "R5: the other one", b, slices.Concat([]int{0, 200}, numbers(2, page-1), []int{201}))
	wantCells(t, "R5: the mark of the one", m, append([]int{100}, numbers(1, page)...))
	wantLive(t, "the one", 2, a, m)
	b.Drop()
	wantLive(t, "the one", 2, a, m)
	wantLive(t, "the other one", 0, b)
}

func TestMarkSharesAllPages(t *testing.T) {
	for _, n := range sizes() {
		b := filled(t, n)
		marks := []*pages.Book{b, b.Mark(), b.Mark()}
		marks = append(marks, marks[1].Mark(), marks[2].Mark().Mark())
		wantLive(t, "marks alone", pagesOf(n), marks...)
		for _, m := range marks {
			wantCells(t, "5.2: the same cells", m, numbers(0, n))
		}
		wantLive(t, "cells that are got", pagesOf(n), marks...)
	}
}

// Each of the two, by each write, leaves the other as it was.
func TestMarkStaysAsItWas(t *testing.T) {
	for _, n := range sizes() {
		for i := range n + 1 {
			for _, back := range []bool{false, true} {
				b := filled(t, n)
				m := b.Mark()
				if back {
					b, m = m, b
				}
				want := numbers(0, n)
				live := pagesOf(n) + 1
				if i < n {
					wantSet(t, "on a page that is shared", b, i, 300)
					want[i] = 300
				} else {
					wantAdd(t, "on a page that is shared", b, 300, n)
					want = append(want, 300)
				}
				wantCells(t, "5.2: what was written", b, want)
				wantCells(t, "5.3: a marked book", m, numbers(0, n))
				wantLive(t, "a page of its own", live, b, m)
				b.Drop()
				wantCells(t, "5.3: a marked book, the other dropped", m, numbers(0, n))
				wantLive(t, "the other dropped", pagesOf(n), b, m)
			}
		}
	}
}

// A page is shared or not, whatever is written: the same cell once more too.
func TestTheSameCellOnceMore(t *testing.T) {
	b := filled(t, page)
	m := b.Mark()
	wantSet(t, "the same cell", m, 3, 3)
	wantLive(t, "the same cell", 2, b, m)
	wantCells(t, "5.2: the same cell", m, numbers(0, page))
}

func TestOnePageOfItsOwn(t *testing.T) {
	b := filled(t, 3*page)
	m := b.Mark()
	for i := range page {
		wantSet(t, "one page", m, page+i, 400+i)
		wantLive(t, "one page, all its cells", 4, b, m)
	}
	wantSet(t, "the next page", m, 2*page, 500)
	wantLive(t, "the next page", 5, b, m)
	wantSet(t, "what none shares any more", b, page, 600)
	wantSet(t, "what none shares any more", b, 2*page, 601)
	wantLive(t, "what none shares any more", 5, b, m)
	wantSet(t, "the page ahead", b, page-1, 602)
	wantLive(t, "the page ahead", 6, b, m)
	wantCells(t, "5.2: the book", b, slices.Concat(numbers(0, page-1), []int{602, 600}, numbers(page+1, page-1), []int{601}, numbers(2*page+1, page-1)))
	wantCells(t, "5.2: its mark", m, slices.Concat(numbers(0, page), numbers(400, page), []int{500}, numbers(2*page+1, page-1)))
}

// Of several that share a page one has its own by what it writes; the others
// share theirs yet.
func TestAPageThatSeveralShare(t *testing.T) {
	b := filled(t, page-1)
	books := []*pages.Book{b, b.Mark(), b.Mark(), b.Mark()}
	for k, c := range books {
		wantLive(t, "ahead of it", min(k+1, len(books)), books...)
		if k%2 == 0 {
			wantSet(t, "shared by several", c, k, 100+k)
		} else {
			wantAdd(t, "shared by several", c, 100+k, page-1)
		}
		wantLive(t, "behind it", min(k+2, len(books)), books...)
		for _, rest := range books[k+1:] {
			wantCells(t, "5.3: not yet written", rest, numbers(0, page-1))
		}
	}
	wantCells(t, "5.2: by Set", books[0], append([]int{100}, numbers(1, page-2)...))
	wantCells(t, "5.2: by Add", books[1], append(numbers(0, page-1), 101))
	wantCells(t, "5.2: by Set", books[2], append([]int{0, 1, 102}, numbers(3, page-4)...))
	wantCells(t, "5.2: by Add", books[3], append(numbers(0, page-1), 103))
}

// A page that is full is not added on: the new one behind it is shared by none.
func TestAddBehindAFullPage(t *testing.T) {
	b := filled(t, page)
	m := b.Mark()
	wantAdd(t, "behind a full page", b, 10, page)
	wantLive(t, "behind a full page", 2, b, m)
	wantAdd(t, "behind a full page", m, 20, page)
	wantLive(t, "behind a full page, both", 3, b, m)
	wantAdd(t, "on one's own", b, 11, page+1)
	wantLive(t, "on one's own", 3, b, m)
	wantCells(t, "5.2: the book", b, append(numbers(0, page), 10, 11))
	wantCells(t, "5.2: its mark", m, append(numbers(0, page), 20))
}

func TestMarkOfNoCells(t *testing.T) {
	b := pages.New()
	m := b.Mark()
	wantLive(t, "no cells", 0, b, m)
	wantAdd(t, "the mark", m, 5, 0)
	wantLive(t, "one cell", 1, b, m)
	wantCells(t, "5.3: no cells", b, nil)
	wantAdd(t, "the book", b, 6, 0)
	wantLive(t, "a cell each", 2, b, m)
	wantCells(t, "5.2: a cell each", b, []int{6})
	wantCells(t, "5.2: a cell each", m, []int{5})
	b.Drop()
	m.Drop()
	wantLive(t, "all dropped", 0, b, m)
}

// Wrong places are no writes: no page is one's own by them.
func TestWrongPlacesOfAMark(t *testing.T) {
	b := filled(t, page+2)
	m := b.Mark()
	for _, i := range []int{-1, -page, page + 2, 2*page - 1, 2 * page, math.MinInt, math.MaxInt} {
		wantNoCell(t, "5.1: a mark", m, i)
	}
	wantLive(t, "wrong places", 2, b, m)
}

// A mark of a mark goes on when what it is of, and that one's, are dropped.
func TestDropInEachOrder(t *testing.T) {
	n := page + 3
	for _, order := range [][]int{{0, 1, 2}, {0, 2, 1}, {1, 0, 2}, {1, 2, 0}, {2, 0, 1}, {2, 1, 0}} {
		b := filled(t, n)
		m := b.Mark()
		books := []*pages.Book{b, m, m.Mark()}
		for k, at := range order {
			wantLive(t, "some yet", 2, books...)
			books[at].Drop()
			wantNone(t, "dropped", books[at])
			for _, rest := range order[k+1:] {
				wantCells(t, "5.2: not dropped", books[rest], numbers(0, n))
			}
		}
		wantLive(t, "all dropped", 0, books...)
	}
}

// Pages of one's own go with the drop, those that are shared stay.
func TestDropOfWhatWasWritten(t *testing.T) {
	b := filled(t, 3*page)
	m := b.Mark()
	m.Set(0, cell(100))
	m.Set(page, cell(101))
	m.Add(cell(102))
	wantLive(t, "written", 6, b, m)
	m.Drop()
	wantLive(t, "the mark dropped", 3, b, m)
	b.Set(0, cell(103))
	b.Set(2*page, cell(104))
	wantLive(t, "none shares them any more", 3, b, m)
	wantCells(t, "5.2: the book", b, slices.Concat([]int{103}, numbers(1, 2*page-1), []int{104}, numbers(2*page+1, page-1)))
	d := b.Mark()
	wantLive(t, "marked again", 3, b, m, d)
	b.Drop()
	wantLive(t, "the book dropped", 3, b, m, d)
	d.Set(1, cell(105))
	wantLive(t, "none shares it any more", 3, b, m, d)
	d.Drop()
	wantLive(t, "all dropped", 0, b, m, d)
}

// Live of a dropped book tells of the others that come of the same New.
func TestLiveOfADroppedBook(t *testing.T) {
	b := filled(t, 2)
	m := b.Mark()
	b.Drop()
	wantNone(t, "dropped", b)
	for i := range 2 * page {
		wantAdd(t, "the mark", m, 2+i, 2+i)
		wantLive(t, "the mark goes on", pagesOf(3+i), b, m)
	}
	d := m.Mark()
	d.Set(0, cell(9))
	wantLive(t, "the mark's mark", 4, b, m, d)
	for range 3 {
		b.Drop()
	}
	wantLive(t, "dropped again", 4, b, m, d)
	wantCells(t, "5.2: dropped again", m, numbers(0, 2*page+2))
}

func TestDropOfNoCells(t *testing.T) {
	b := pages.New()
	m := b.Mark()
	b.Drop()
	wantNone(t, "no cells, dropped", b)
	wantAdd(t, "its mark", m, 0, 0)
	wantLive(t, "its mark", 1, b, m)
}

func TestOfNil(t *testing.T) {
	var none *pages.Book
	wantNone(t, "nil", none)
	wantLive(t, "nil", 0, none)
	// Nothing is said of a book that New did not make, but that no call panics.
	none = new(pages.Book)
	wantNone(t, "made by none", none)
	wantLive(t, "made by none", 0, none)
}

func TestWhatIsHandedInIsNotKept(t *testing.T) {
	keys := append(make([]string, 0, 8), "a", "b")
	vals := append(make([]api.Value, 0, 8), api.Value{Kind: api.VNum, N: 1})
	c := api.Cell{Kind: api.CObj, Keys: keys, Vals: vals}
	want := api.Cell{Kind: api.CObj, Keys: []string{"a", "b"}, Vals: []api.Value{{Kind: api.VNum, N: 1}}}
	b := filled(t, 1)
	b.Set(0, c)
	b.Add(c)
	m := b.Mark()
	if !same(c, want) || keys[:3][2] != "" || vals[:2][1] != (api.Value{}) {
		t.Error("R3: what is handed in was changed")
	}
	keys[0], vals[0].N = "z", 9
	_, _ = append(keys, "y"), append(vals, api.Value{Kind: api.VNum, N: 8})
	for i := range 2 {
		x, _ := b.Get(i)
		y, _ := m.Get(i)
		if !same(x, want) || !same(y, want) {
			t.Errorf("R3: place %d keeps what was handed in: %v, %v", i, x, y)
		}
	}
}

// spoil writes on all of a list, its spare room too.
func spoil[T any](l []T, with T) {
	l = l[:cap(l)]
	for i := range l {
		l[i] = with
	}
}

func TestWhatIsToldIsNewMemory(t *testing.T) {
	b := filled(t, page+1)
	m := b.Mark()
	for i := range page + 1 {
		x, _ := b.Get(i)
		y, _ := b.Get(i)
		z, _ := m.Get(i)
		spoil(x.Keys, "z")
		spoil(x.Vals, api.Value{Kind: api.VNull})
		if !same(y, cell(i)) || !same(z, cell(i)) {
			t.Errorf("R3: two answers of place %d share memory", i)
		}
	}
	wantCells(t, "R3: what was told was written on", b, numbers(0, page+1))
	wantCells(t, "R3: what was told was written on", m, numbers(0, page+1))
	wantLive(t, "what was told was written on", 2, b, m)
}

// What was told by one place, and handed in to another, is kept as a copy.
func TestFromPlaceToPlace(t *testing.T) {
	b := filled(t, 2)
	x, _ := b.Get(0)
	b.Set(1, x)
	b.Add(x)
	spoil(x.Keys, "z")
	spoil(x.Vals, api.Value{Kind: api.VNull})
	wantCells(t, "R3: from place to place", b, []int{0, 0, 0})
}

// An empty list is no piece of what was handed in either.
func TestEmptyListsKeepNothing(t *testing.T) {
	room := make([]api.Value, 4)
	b := pages.New()
	b.Add(api.Cell{Vals: room[:0]})
	x, _ := b.Get(0)
	if cap(x.Vals) > 0 || unsafe.SliceData(x.Vals) == unsafe.SliceData(room) {
		t.Error("R3: an empty list lies in what was handed in")
	}
}
