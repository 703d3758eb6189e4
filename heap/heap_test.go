package heap_test

import (
	"math"
	"slices"
	"testing"

	"boomerang/api"
	"boomerang/heap"
)

const page = api.PageSize

// cell is one that n alone says; each part of it differs from that of another n.
func cell(n int) api.Cell {
	return api.Cell{
		Kind: 1 + n%api.CGen, A: n, B: -n,
		Keys: []string{"key", string(rune('a' + n%26))},
		Vals: []api.Value{{Kind: api.VRef, N: n}, {Kind: api.VStr, S: "text"}},
	}
}

// cells are cell of each of ns.
func cells(ns ...int) []api.Cell {
	l := []api.Cell{}
	for _, n := range ns {
		l = append(l, cell(n))
	}
	return l
}

// same holds cells against one another; a nil list and an empty one are one.
func same(a, b api.Cell) bool {
	return a.Kind == b.Kind && a.A == b.A && a.B == b.B && slices.Equal(a.Keys, b.Keys) && slices.Equal(a.Vals, b.Vals)
}

// upTo are the numbers from 1 on, n of them: each the address of its cell in filled.
func upTo(n int) []int {
	l := make([]int, n)
	for i := range l {
		l[i] = i + 1
	}
	return l
}

// filled is a heap of the cells 1, 2, .., n.
func filled(t *testing.T, n int) *heap.Heap {
	t.Helper()
	h := heap.New()
	for i := range n {
		wantAlloc(t, "filled", h, i+1, i+1)
	}
	return h
}

// wantAlloc allocates cell n, which has address at then.
func wantAlloc(t *testing.T, what string, h *heap.Heap, n, at int) {
	t.Helper()
	if got, e := h.Alloc(cell(n)); got != at || e != api.OK {
		t.Fatalf("6.1: %s: Alloc: %d, %d; want %d", what, got, e, at)
	}
}

// wantNoAlloc holds that no cell can be allocated, and which error says so.
func wantNoAlloc(t *testing.T, what string, h *heap.Heap, want api.Errno) {
	t.Helper()
	if at, e := h.Alloc(cell(1)); at != 0 || e != want {
		t.Errorf("6.1: %s: Alloc: %d, %d; want %d alone", what, at, e, want)
	}
}

// wantStore makes cell n that of address at.
func wantStore(t *testing.T, what string, h *heap.Heap, at, n int) {
	t.Helper()
	if e := h.Store(at, cell(n)); e != api.OK {
		t.Fatalf("6.1: %s: Store at %d: %d", what, at, e)
	}
}

// wantCells holds that h has the cells l, by Len, by Load and by Cells, and no more.
func wantCells(t *testing.T, what string, h *heap.Heap, l []api.Cell) {
	t.Helper()
	if h.Len() != len(l) {
		t.Errorf("%s: Len is %d; want %d", what, h.Len(), len(l))
	}
	if got := h.Cells(); !slices.EqualFunc(got, l, same) {
		t.Errorf("%s: Cells: %v; want %v", what, got, l)
	}
	for i, want := range l {
		if c, e := h.Load(i + 1); !same(c, want) || e != api.OK {
			t.Errorf("%s: Load of %d: %v, %d; want %v", what, i+1, c, e, want)
		}
	}
	wantNoCells(t, what, h, -1, 0, len(l)+1)
}

// wantNoCells holds that there are no cells of these addresses, to be loaded or stored.
func wantNoCells(t *testing.T, what string, h *heap.Heap, addresses ...int) {
	t.Helper()
	for _, at := range addresses {
		if c, e := h.Load(at); !same(c, api.Cell{}) || e != api.ErrNone {
			t.Errorf("%s: Load of %d: %v, %d; want ErrNone alone", what, at, c, e)
		}
		if e := h.Store(at, cell(77)); e != api.ErrNone {
			t.Errorf("%s: Store at %d: %d; want ErrNone", what, at, e)
		}
	}
}

// wantLive holds that each of heaps tells n.
func wantLive(t *testing.T, what string, n int, heaps ...*heap.Heap) {
	t.Helper()
	for i, h := range heaps {
		if h.Live() != n {
			t.Errorf("6.1: %s: Live of heap %d is %d; want %d", what, i, h.Live(), n)
		}
	}
}

// wantNone holds that h, a dropped heap or nil, has nothing, and that each call tells so.
func wantNone(t *testing.T, what string, h *heap.Heap) {
	t.Helper()
	live := h.Live()
	wantNoCells(t, "6.1: "+what, h, math.MinInt, -1, 0, 1, 2, page, page+1, math.MaxInt)
	wantNoAlloc(t, what, h, api.ErrNone)
	if h.Len() != 0 || len(h.Cells()) != 0 {
		t.Errorf("6.1: %s: Len is %d, and Cells %v", what, h.Len(), h.Cells())
	}
	if h.Mark() != nil {
		t.Errorf("6.1: %s: there is a Mark", what)
	}
	h.Drop()
	wantLive(t, what, live, h)
}

// sizes are numbers of cells, around the edges of the first pages.
func sizes() []int {
	return []int{0, 1, 2, page - 1, page, page + 1, 2 * page, 3*page + 2}
}

// pagesOf says how many pages n cells take.
func pagesOf(n int) int {
	return (n + page - 1) / page
}

func TestNew(t *testing.T) {
	h := heap.New()
	if h == nil {
		t.Fatal("6.1: New is nil")
	}
	wantCells(t, "6.1: no cells", h, nil)
	wantNoCells(t, "6.1: no cells", h, 1, 2)
	wantLive(t, "no cells", 0, h)
	wantAlloc(t, "the example", h, 5, 1)
	wantCells(t, "6.1: one cell", h, cells(5))
	wantLive(t, "one cell", 1, h)
}

func TestAllocLoadAndStore(t *testing.T) {
	for _, n := range sizes() {
		h, want := filled(t, n), cells(upTo(n)...)
		wantCells(t, "6.1: allocated", h, want)
		wantLive(t, "allocated", pagesOf(n), h)
		for i := range n {
			wantStore(t, "one by one", h, i+1, 100+i)
			want[i] = cell(100 + i)
			wantCells(t, "6.3: stored", h, want)
		}
		for i := range n {
			wantStore(t, "again", h, n-i, 200+i)
			want[n-i-1] = cell(200 + i)
		}
		wantCells(t, "6.3: stored again", h, want)
		wantAlloc(t, "behind what was stored", h, 300, n+1)
		wantCells(t, "6.1: one more", h, append(want, cell(300)))
		wantLive(t, "one more", pagesOf(n+1), h)
	}
}

// Each part of a cell is kept, also where it is such as no machine makes.
func TestCellsOfEveryForm(t *testing.T) {
	forms := []api.Cell{
		{},
		{Kind: -1, A: math.MinInt, B: math.MaxInt},
		{Kind: api.CFun, A: 3, B: 9},
		{Keys: []string{""}},
		{Vals: []api.Value{{}}},
		{Kind: api.CArr, Keys: []string{}, Vals: []api.Value{}},
		{Kind: api.CObj, Keys: []string{"a", "a", "\xff"}, Vals: []api.Value{{Kind: 99, N: -1, S: "\x00"}}},
		{Kind: api.CScope, Vals: slices.Repeat([]api.Value{{Kind: api.VHole}}, api.MaxItems+1)},
		{Kind: api.CGen + 1, A: 1, B: 1},
	}
	h, stored := heap.New(), filled(t, len(forms))
	for i, c := range forms {
		if at, e := h.Alloc(c); at != i+1 || e != api.OK {
			t.Errorf("6.1: Alloc: %d, %d; want %d", at, e, i+1)
		}
		if e := stored.Store(i+1, c); e != api.OK {
			t.Errorf("6.1: Store: %d", e)
		}
	}
	wantCells(t, "6.3: forms, allocated", h, forms)
	wantCells(t, "6.3: forms, stored", stored, forms)
}

func TestAddressesThatThereAreNot(t *testing.T) {
	for _, n := range sizes() {
		h := filled(t, n)
		m := h.Mark()
		for _, x := range []*heap.Heap{h, m} {
			wantNoCells(t, "6.1: no such address", x, math.MinInt, math.MinInt+1, -1<<32, -page, -n-1, -n, -2, -1, 0)
			wantNoCells(t, "6.1: no such address", x, n+1, n+2, n+page, api.MaxCells, api.MaxCells+1, 1<<32, 1<<32+1, 1<<40, math.MaxInt-1, math.MaxInt)
			wantCells(t, "6.1: behind wrong addresses", x, cells(upTo(n)...))
		}
		wantLive(t, "wrong addresses are no writes", pagesOf(n), h, m)
	}
}

func TestFull(t *testing.T) {
	h := filled(t, api.MaxCells-1)
	m := h.Mark()
	want := cells(append(upTo(api.MaxCells-1), 5000)...)
	for _, x := range []*heap.Heap{h, m} {
		wantAlloc(t, "the last one", x, 5000, api.MaxCells)
		wantNoAlloc(t, "one more than MaxCells", x, api.ErrFull)
		wantNoAlloc(t, "one more, again", x, api.ErrFull)
		wantCells(t, "6.1: full", x, want)
	}
	wantLive(t, "full", api.MaxCells/page+1, h, m)
	wantStore(t, "full", h, api.MaxCells, 6000)
	wantStore(t, "full", h, 1, 7000)
	wantCells(t, "6.1: full, the mark", m, want)
	want[api.MaxCells-1], want[0] = cell(6000), cell(7000)
	wantCells(t, "6.3: full, stored", h, want)
	wantNoAlloc(t, "stored", h, api.ErrFull)
	h.Drop()
	wantNone(t, "full, dropped", h)
	wantNoAlloc(t, "full, the other dropped", m, api.ErrFull)
}

func TestTwoThatDoNotComeOfOneAnother(t *testing.T) {
	a, b := filled(t, page+1), filled(t, page+1)
	m := a.Mark()
	wantStore(t, "a mark", m, 1, 100)
	wantLive(t, "the one", 3, a, m)
	wantLive(t, "the other one", 2, b)
	wantStore(t, "the other one", b, 2, 200)
	wantAlloc(t, "the other one", b, 201, page+2)
	a.Drop()
	want := cells(append(upTo(page+1), 201)...)
	want[1] = cell(200)
	wantCells(t, "R5: the other one", b, want)
	wantCells(t, "R5: the mark of the one", m, cells(append([]int{100}, upTo(page + 1)[1:]...)...))
	wantLive(t, "the one, dropped", 2, a, m)
	b.Drop()
	wantLive(t, "the other one, dropped", 0, b)
	wantLive(t, "the one", 2, a, m)
}

// Each of the two, by each write, leaves the other as it was.
func TestMarkEitherWay(t *testing.T) {
	for _, n := range sizes() {
		for at := 1; at <= n+1; at++ {
			for _, back := range []bool{false, true} {
				writes := filled(t, n)
				stays := writes.Mark()
				wantLive(t, "ahead of a write", pagesOf(n), writes, stays)
				if back {
					writes, stays = stays, writes
				}
				want := cells(upTo(n)...)
				if at <= n {
					wantStore(t, "a page that is shared", writes, at, 300)
					want[at-1] = cell(300)
				} else {
					wantAlloc(t, "a page that is shared", writes, 300, at)
					want = append(want, cell(300))
				}
				wantCells(t, "6.1: what was written", writes, want)
				wantCells(t, "6.1: a marked heap", stays, cells(upTo(n)...))
				wantLive(t, "behind a write", pagesOf(n)+1, writes, stays)
				writes.Drop()
				wantNone(t, "dropped", writes)
				wantCells(t, "6.1: the other dropped", stays, cells(upTo(n)...))
				wantLive(t, "the other dropped", pagesOf(n), writes, stays)
			}
		}
	}
}

// Several marks, and marks of marks, have what is theirs.
func TestMarksOfMarks(t *testing.T) {
	h := filled(t, 2)
	m := h.Mark()
	heaps := []*heap.Heap{h, m, m.Mark(), h.Mark(), m.Mark().Mark()}
	wantLive(t, "marks alone", 1, heaps...)
	for k, x := range heaps {
		wantAlloc(t, "one each", x, 10+k, 3)
		wantStore(t, "one each", x, 1, 20+k)
	}
	for k, x := range heaps {
		wantCells(t, "6.1: one each", x, cells(20+k, 2, 10+k))
	}
}

func TestDrop(t *testing.T) {
	n := page + 3
	for _, order := range [][]int{{0, 1, 2}, {0, 2, 1}, {1, 0, 2}, {1, 2, 0}, {2, 0, 1}, {2, 1, 0}} {
		h := filled(t, n)
		m := h.Mark()
		heaps := []*heap.Heap{h, m, m.Mark()}
		for k, at := range order {
			wantLive(t, "ahead of a drop", 2, heaps...)
			heaps[at].Drop()
			wantNone(t, "dropped", heaps[at])
			for _, rest := range order[k+1:] {
				wantCells(t, "6.1: not dropped", heaps[rest], cells(upTo(n)...))
			}
		}
		wantLive(t, "all dropped", 0, heaps...)
	}
}

func TestLiveOfADroppedHeap(t *testing.T) {
	h := heap.New()
	m := h.Mark()
	h.Drop()
	wantNone(t, "no cells, dropped", h)
	for i := range 2 * page {
		wantAlloc(t, "its mark", m, i, i+1)
		wantLive(t, "its mark goes on", pagesOf(i+1), h, m)
	}
	m.Drop()
	wantLive(t, "all dropped", 0, h, m)
}

func TestOfNil(t *testing.T) {
	var none *heap.Heap
	wantNone(t, "nil", none)
	wantLive(t, "nil", 0, none)
	// Nothing is said of a heap that New did not make, but that no call panics.
	none = new(heap.Heap)
	wantNone(t, "made by none", none)
	wantLive(t, "made by none", 0, none)
}

// spoil writes on all of a list, its spare room too.
func spoil[T any](l []T, with T) {
	l = l[:cap(l)]
	for i := range l {
		l[i] = with
	}
}

// spoilLists writes on the lists of a cell.
func spoilLists(c api.Cell) {
	spoil(c.Keys, "spoiled")
	spoil(c.Vals, api.Value{Kind: api.VNull, N: -1})
}

func TestWhatIsHandedInIsNotKept(t *testing.T) {
	h := filled(t, 1)
	a, b := cell(8), cell(9)
	a.Keys, a.Vals = slices.Grow(a.Keys, 4), slices.Grow(a.Vals, 4)
	if at, e := h.Alloc(a); at != 2 || e != api.OK || h.Store(1, b) != api.OK {
		t.Fatal("6.1: Alloc", at, e)
	}
	m := h.Mark()
	if !same(a, cell(8)) || !same(b, cell(9)) || a.Keys[:3][2] != "" || a.Vals[:3][2] != (api.Value{}) {
		t.Error("R3: what is handed in was changed")
	}
	spoilLists(a)
	spoilLists(b)
	wantCells(t, "R3: handed in", h, cells(9, 8))
	wantCells(t, "R3: handed in, a mark", m, cells(9, 8))
}

func TestWhatIsToldIsNewMemory(t *testing.T) {
	n := page + 1
	h := filled(t, n)
	m := h.Mark()
	l, other, ofMark := h.Cells(), h.Cells(), m.Cells()
	for i, c := range l {
		spoilLists(c)
		for k := i + 1; k < n; k++ {
			if !same(l[k], cell(k+1)) {
				t.Fatalf("R3: lists of the cells %d and %d of one answer share memory", i+1, k+1)
			}
		}
	}
	spoil(l, cell(500))
	for at := 1; at <= n; at++ {
		c, _ := h.Load(at)
		spoilLists(c)
	}
	for _, told := range [][]api.Cell{other, ofMark} {
		if !slices.EqualFunc(told, cells(upTo(n)...), same) {
			t.Errorf("R3: two answers of Cells share memory: %v", told)
		}
	}
	wantCells(t, "R3: told", h, cells(upTo(n)...))
	wantCells(t, "R3: told, a mark", m, cells(upTo(n)...))
	wantLive(t, "told", 2, h, m)
}

// What is appended to an answer is not in the heap, nor what is allocated in the answer.
func TestAppendedToWhatIsTold(t *testing.T) {
	h := filled(t, 3)
	l := h.Cells()
	for i := range l {
		l[i].Keys = append(l[i].Keys, "more")
		l[i].Vals = append(l[i].Vals, api.Value{Kind: api.VHole})
	}
	l = append(l, cell(9))
	wantCells(t, "R3: appended to", h, cells(1, 2, 3))
	wantAlloc(t, "behind it", h, 4, 4)
	if !same(l[3], cell(9)) {
		t.Error("R3: what was told is written on by Alloc")
	}
}
