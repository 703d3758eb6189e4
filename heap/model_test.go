package heap_test

import (
	"slices"
	"testing"

	"boomerang/api"
	"boomerang/heap"
	"boomerang/pages"
)

// pair is a heap, the book that 6.1 says it is, and of each address the number of
// the cell that was stored there last (6.3).
type pair struct {
	h    *heap.Heap
	b    *pages.Book
	last []int
	gone bool
}

// turning tells numbers that hang on the first one alone.
func turning(seed uint32) func(below int) int {
	return func(below int) int {
		seed = seed*1664525 + 1013904223
		return int(seed>>16) % below
	}
}

func (p *pair) alloc(t *testing.T, n int) {
	t.Helper()
	at, e := p.h.Alloc(cell(n))
	place, want := p.b.Add(cell(n))
	if want == api.OK {
		place++
		p.last = append(p.last, n)
	}
	if at != place || e != want {
		t.Fatalf("6.1: Alloc: %d, %d; want %d, %d", at, e, place, want)
	}
}

func (p *pair) store(t *testing.T, at, n int) {
	t.Helper()
	e, want := p.h.Store(at, cell(n)), p.b.Set(at-1, cell(n))
	if want == api.OK {
		p.last[at-1] = n
	}
	if e != want {
		t.Fatalf("6.1: Store at %d: %d; want %d", at, e, want)
	}
}

func (p *pair) mark(t *testing.T) *pair {
	t.Helper()
	m := &pair{h: p.h.Mark(), b: p.b.Mark(), last: slices.Clone(p.last)}
	if (m.h == nil) != p.gone || (m.b == nil) != p.gone {
		t.Fatal("6.1: Mark is nil, or is not, against what was dropped")
	}
	return m
}

func (p *pair) drop() {
	p.h.Drop()
	p.b.Drop()
	p.last, p.gone = nil, true
}

func wantPairs(t *testing.T, pairs []*pair) {
	t.Helper()
	for _, p := range pairs {
		wantCells(t, "6.3: a walk", p.h, cells(p.last...))
		wantLive(t, "a walk", p.b.Live(), p.h)
	}
}

// A heap's calls are those of a book, whatever row of them comes.
func TestBesideABook(t *testing.T) {
	for seed := range uint32(10) {
		next := turning(seed)
		pairs := []*pair{{h: heap.New(), b: pages.New()}}
		for n := range 500 {
			p := pairs[next(len(pairs))]
			switch call := next(40); {
			case call < 20:
				p.alloc(t, n)
			case call < 34:
				p.store(t, next(len(p.last)+3)-1, n)
			case call < 37:
				if m := p.mark(t); m.h != nil {
					pairs = append(pairs, m)
				}
			case len(pairs) > 4:
				p.drop()
			}
			wantLive(t, "a walk", p.b.Live(), p.h)
			if n%25 == 0 {
				wantPairs(t, pairs)
			}
			if t.Failed() {
				t.Fatalf("6.1: walk %d, call %d", seed, n)
			}
		}
		wantPairs(t, pairs)
	}
}
