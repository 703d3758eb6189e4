package heap_test

import (
	"fmt"
	"math"
	"slices"
	"testing"

	"boomerang/api"
	"boomerang/heap"
)

func ref(n int) api.Value { return api.Value{Kind: api.VRef, N: n} }
func own(n int) api.Value { return api.Value{Kind: api.VOwn, N: n, S: "resolve"} }

// array is a cell that leads where vals do, and nowhere else.
func array(vals ...api.Value) api.Cell { return api.Cell{Kind: api.CArr, Vals: vals} }

// wantReach holds what roots reach in l, and that neither is changed.
func wantReach(t *testing.T, what string, l []api.Cell, roots []api.Value, want ...int) {
	t.Helper()
	cellsAhead, rootsAhead := fmt.Sprint(l), slices.Clone(roots)
	for range 2 {
		got := heap.Reach(l, roots)
		if !slices.Equal(got, want) {
			t.Errorf("6.2: %s: Reach: %v; want %v", what, got, want)
		}
		spoil(got, -1)
	}
	if fmt.Sprint(l) != cellsAhead || !slices.Equal(roots, rootsAhead) {
		t.Errorf("R3: %s: what is handed in was changed", what)
	}
}

func TestReachOfNothing(t *testing.T) {
	l := []api.Cell{array(ref(2)), array(ref(1))}
	wantReach(t, "neither cells nor roots", nil, nil)
	wantReach(t, "neither cells nor roots", []api.Cell{}, []api.Value{})
	wantReach(t, "no roots", l, nil)
	wantReach(t, "no roots", l, []api.Value{})
	wantReach(t, "no cells", nil, []api.Value{ref(0), ref(1), own(1), ref(-1), own(2)})
}

// A value leads to N if it is a VRef or a VOwn, as a root and in a cell of each kind.
func TestReachByEachKindOfValue(t *testing.T) {
	for kind := -1; kind <= api.VHole+1; kind++ {
		for _, n := range []int{math.MinInt, -3, -1, 0, 1, 2, 3, 4, 5, 1 << 32, 1<<32 + 1, math.MaxInt} {
			v := api.Value{Kind: kind, N: n, S: "2"}
			what := fmt.Sprintf("value %v", v)
			var asRoot []int
			inCell := []int{3}
			if (kind == api.VRef || kind == api.VOwn) && n >= 1 && n <= 4 {
				asRoot = []int{n}
				inCell = slices.Compact(slices.Sorted(slices.Values([]int{n, 3})))
			}
			wantReach(t, "a root: "+what, make([]api.Cell, 4), []api.Value{v}, asRoot...)
			for holder := -1; holder <= api.CGen+1; holder++ {
				l := make([]api.Cell, 4)
				l[2] = api.Cell{Kind: holder, Vals: []api.Value{{}, v, {Kind: api.VNum, N: 1}}}
				wantReach(t, fmt.Sprintf("in a cell of kind %d: %s", holder, what), l, []api.Value{ref(3)}, inCell...)
			}
		}
	}
}

// A CObj and a CScope lead to A, a CFun to B, no other kind to either.
func TestReachByEachKindOfCell(t *testing.T) {
	for kind := -1; kind <= api.CGen+1; kind++ {
		for a := -1; a <= 5; a++ {
			for b := -1; b <= 5; b++ {
				to := 0
				switch kind {
				case api.CObj, api.CScope:
					to = a
				case api.CFun:
					to = b
				}
				want := []int{2}
				if to >= 1 && to <= 4 && to != 2 {
					want = append(want, to)
				}
				slices.Sort(want)
				l := make([]api.Cell, 4)
				l[1] = api.Cell{Kind: kind, A: a, B: b, Keys: []string{"1", "3"}}
				wantReach(t, fmt.Sprintf("cell %v", l[1]), l, []api.Value{ref(2)}, want...)
			}
		}
	}
}

func TestReachToFarAddresses(t *testing.T) {
	for _, far := range []int{math.MinInt, -1 << 32, 1 << 32, 1<<32 + 1, 1 << 40, math.MaxInt} {
		l := []api.Cell{
			{Kind: api.CObj, A: far}, {Kind: api.CScope, A: far}, {Kind: api.CFun, A: 1, B: far},
			array(ref(far), own(far)),
		}
		wantReach(t, "far", l, []api.Value{ref(far), ref(4), own(far), ref(3), ref(2), ref(1)}, 1, 2, 3, 4)
	}
}

// The first address and the last one are as all others.
func TestReachAtTheEdges(t *testing.T) {
	l := []api.Cell{array(ref(4)), array(), array(ref(1)), array(ref(5), ref(0))}
	wantReach(t, "the first", l, []api.Value{ref(1)}, 1, 4)
	wantReach(t, "the last", l, []api.Value{ref(4)}, 4)
	wantReach(t, "one behind the last", l, []api.Value{ref(5)})
	wantReach(t, "none", l, []api.Value{ref(0)})
	wantReach(t, "below", l, []api.Value{ref(-1)})
	wantReach(t, "one cell", l[:1], []api.Value{ref(1)}, 1)
}

func TestReachOfRings(t *testing.T) {
	itself := []api.Cell{
		{Kind: api.CObj, A: 1}, {Kind: api.CScope, A: 2}, {Kind: api.CFun, B: 3},
		array(ref(4)), {Kind: api.CPromise, Vals: []api.Value{own(5)}},
	}
	for i := range itself {
		wantReach(t, "a cell that leads to itself", itself, []api.Value{ref(i + 1)}, i+1)
	}
	ring := []api.Cell{
		{Kind: api.CObj, A: 4}, array(ref(1)), {Kind: api.CGen, A: 1, B: 5, Vals: []api.Value{own(2)}},
		{Kind: api.CFun, A: 5, B: 3}, array(ref(3)),
	}
	for at := 1; at <= 4; at++ {
		wantReach(t, "a ring", ring, []api.Value{own(at)}, 1, 2, 3, 4)
	}
	wantReach(t, "ahead of a ring", ring, []api.Value{ref(5)}, 1, 2, 3, 4, 5)
	pair := []api.Cell{array(ref(2), ref(2)), array(ref(1), ref(2), ref(1)), array(ref(1), ref(2))}
	wantReach(t, "two that lead to one another", pair, []api.Value{ref(2), ref(1), ref(2)}, 1, 2)
}

// However often, and in whatever order, an address is led to, it is told once.
func TestReachTellsOnceAndRising(t *testing.T) {
	l := []api.Cell{
		array(), array(ref(1), ref(1), own(1)), array(ref(2), ref(1)),
		{Kind: api.CObj, A: 1, Vals: []api.Value{ref(1), ref(3)}}, array(ref(6)), array(),
	}
	for _, roots := range [][]api.Value{
		{ref(6), ref(4)}, {ref(4), ref(6)}, {ref(6), ref(6), own(4), ref(4), ref(6)},
		{ref(1), ref(2), ref(3), ref(4), ref(6)}, {ref(6), ref(4), ref(3), ref(2), ref(1)},
	} {
		wantReach(t, "once and rising", l, roots, 1, 2, 3, 4, 6)
	}
	wantReach(t, "all", l, []api.Value{ref(5), ref(4)}, 1, 2, 3, 4, 5, 6)
	full := slices.Repeat([]api.Cell{array(slices.Repeat([]api.Value{ref(7), ref(3)}, api.MaxItems)...)}, 9)
	wantReach(t, "many times", full, slices.Repeat([]api.Value{ref(5)}, 999), 3, 5, 7)
}

// Rows of cells, far longer than a heap is, each leading to the next one.
func TestReachOfLongRows(t *testing.T) {
	const n = 1 << 20
	for form, row := range []func(to int) api.Cell{
		func(to int) api.Cell { return api.Cell{Kind: api.CObj, A: to} },
		func(to int) api.Cell { return api.Cell{Kind: api.CScope, A: to} },
		func(to int) api.Cell { return api.Cell{Kind: api.CFun, B: to} },
		func(to int) api.Cell { return array(ref(to)) },
	} {
		l := make([]api.Cell, n)
		for i := range l {
			l[i] = row((i+1)%n + 1)
		}
		if !slices.Equal(heap.Reach(l, []api.Value{ref(n / 2)}), upTo(n)) {
			t.Errorf("6.2: a long ring of form %d is not told whole", form)
		}
		l[n-2] = api.Cell{}
		if !slices.Equal(heap.Reach(l, []api.Value{ref(1)}), upTo(n-1)) {
			t.Errorf("6.2: a long row of form %d is not told up to its end", form)
		}
	}
}

// All that a heap tells can be handed to Reach.
func TestReachOfAHeap(t *testing.T) {
	h := heap.New()
	for _, c := range []api.Cell{array(ref(3)), {Kind: api.CObj, A: 1}, {Kind: api.CFun, B: 4}, {Kind: api.CScope}} {
		h.Alloc(c)
	}
	wantReach(t, "a heap", h.Cells(), []api.Value{ref(1)}, 1, 3, 4)
	m := h.Mark()
	h.Store(3, array(own(2)))
	wantReach(t, "a heap that was stored in", h.Cells(), []api.Value{ref(1)}, 1, 2, 3)
	wantReach(t, "its mark", m.Cells(), []api.Value{ref(1)}, 1, 3, 4)
	h.Drop()
	wantReach(t, "a dropped heap", h.Cells(), []api.Value{ref(1)})
	h = nil
	wantReach(t, "nil", h.Cells(), []api.Value{ref(1)})
}

// slowReach says 6.2 again: it goes through all cells until no address is new.
func slowReach(l []api.Cell, roots []api.Value) []int {
	led := map[int]bool{}
	values := func(vals []api.Value) {
		for _, v := range vals {
			switch {
			case v.Kind == api.VRef:
				led[v.N] = true
			case v.Kind == api.VOwn && v.N != 0:
				led[v.N] = true
			}
		}
	}
	values(roots)
	for ahead := -1; ahead != len(led); {
		ahead = len(led)
		for i, c := range l {
			if !led[i+1] {
				continue
			}
			values(c.Vals)
			if (c.Kind == api.CObj || c.Kind == api.CScope) && c.A != 0 {
				led[c.A] = true
			}
			if c.Kind == api.CFun && c.B != 0 {
				led[c.B] = true
			}
		}
	}
	var told []int
	for at := 1; at <= len(l); at++ {
		if led[at] {
			told = append(told, at)
		}
	}
	return told
}

// Heaps of few cells that lead hither and thither.
func TestReachBesideASlowOne(t *testing.T) {
	next := turning(6)
	sizesTold := map[int]int{}
	for range 20000 {
		n := next(12)
		values := func(most int) []api.Value {
			vals := make([]api.Value, next(most))
			for i := range vals {
				vals[i] = api.Value{Kind: next(api.VHole + 2), N: next(n+4) - 2}
			}
			return vals
		}
		l := make([]api.Cell, n)
		for i := range l {
			l[i] = api.Cell{Kind: next(api.CGen + 2), A: next(n+4) - 2, B: next(n+4) - 2, Vals: values(4)}
		}
		roots := values(5)
		got, want := heap.Reach(l, roots), slowReach(l, roots)
		if !slices.Equal(got, want) {
			t.Fatalf("6.2: Reach(%v, %v): %v; want %v", l, roots, got, want)
		}
		sizesTold[len(want)]++
	}
	if len(sizesTold) < 10 {
		t.Errorf("6.2: answers of few sizes alone: %v", sizesTold)
	}
}
