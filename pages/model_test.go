package pages_test

import (
	"slices"
	"testing"

	"boomerang/api"
	"boomerang/pages"
)

// slowBook says chapter 5 again: a book writes down the cells themselves, and of
// each page a name, which it has in common with those that share that page.
type slowBook struct {
	cells   []int
	names   []int
	dropped bool
}

// slowFamily are all books that come of one New, beside the real ones.
type slowFamily struct {
	slow []*slowBook
	real []*pages.Book
	last int // name of a page
}

func newFamily() *slowFamily {
	return &slowFamily{slow: []*slowBook{{}}, real: []*pages.Book{pages.New()}}
}

// live counts the names of pages that are not dropped.
func (f *slowFamily) live() int {
	seen := map[int]bool{}
	for _, s := range f.slow {
		for _, name := range s.names {
			seen[name] = true
		}
	}
	return len(seen)
}

// shared tells whether another book than s has a page of that name.
func (f *slowFamily) shared(s *slowBook, name int) bool {
	return slices.ContainsFunc(f.slow, func(o *slowBook) bool {
		return o != s && slices.Contains(o.names, name)
	})
}

// own gives s a page of its own at place i, if it shares that one.
func (f *slowFamily) own(s *slowBook, i int) {
	if f.shared(s, s.names[i/page]) {
		f.last++
		s.names[i/page] = f.last
	}
}

func (f *slowFamily) set(t *testing.T, k, i, n int) {
	t.Helper()
	s, want := f.slow[k], api.ErrNone
	if i >= 0 && i < len(s.cells) {
		want = api.OK
		s.cells[i] = n
		f.own(s, i)
	}
	if e := f.real[k].Set(i, cell(n)); e != want {
		t.Fatalf("5.1: book %d: Set of %d: %d; want %d", k, i, e, want)
	}
}

func (f *slowFamily) add(t *testing.T, k, n int) {
	t.Helper()
	s, at, want := f.slow[k], 0, api.OK
	switch {
	case s.dropped:
		want = api.ErrNone
	case len(s.cells) == api.MaxCells:
		want = api.ErrFull
	default:
		at = len(s.cells)
		s.cells = append(s.cells, n)
		if len(s.names)*page < len(s.cells) {
			f.last++
			s.names = append(s.names, f.last)
		}
		f.own(s, at)
	}
	if got, e := f.real[k].Add(cell(n)); got != at || e != want {
		t.Fatalf("5.1: book %d: Add: %d, %d; want %d, %d", k, got, e, at, want)
	}
}

func (f *slowFamily) mark(t *testing.T, k int) {
	t.Helper()
	s, m := f.slow[k], f.real[k].Mark()
	if (m == nil) != s.dropped {
		t.Fatalf("5.2: book %d: Mark is nil: %v", k, m == nil)
	}
	if m == nil {
		return
	}
	f.slow = append(f.slow, &slowBook{cells: slices.Clone(s.cells), names: slices.Clone(s.names)})
	f.real = append(f.real, m)
}

func (f *slowFamily) drop(k int) {
	f.slow[k] = &slowBook{dropped: true}
	f.real[k].Drop()
}

// want holds all real books against the slow ones.
func (f *slowFamily) want(t *testing.T, what string) {
	t.Helper()
	wantLive(t, what, f.live(), f.real...)
	for k, s := range f.slow {
		wantCells(t, what, f.real[k], s.cells)
	}
}

// The calls of a walk.
const (
	setFirst = iota
	setLast
	setNone
	add
	mark
	drop
	calls
)

func (f *slowFamily) do(t *testing.T, call, k, n int) {
	t.Helper()
	switch call {
	case setFirst:
		f.set(t, k, 0, n)
	case setLast:
		f.set(t, k, len(f.slow[k].cells)-1, n)
	case setNone:
		f.set(t, k, len(f.slow[k].cells), n)
	case add:
		f.add(t, k, n)
	case mark:
		f.mark(t, k)
	case drop:
		f.drop(k)
	}
}

// walk does steps, each a call of one of the first books, and holds what came of
// them. It tells false, and holds nothing, if a step is of a book that there is not.
func walk(t *testing.T, size int, steps []int) bool {
	t.Helper()
	f := newFamily()
	for i := range size {
		f.add(t, 0, i)
	}
	for n, step := range steps {
		if step/calls >= len(f.real) {
			return false
		}
		f.do(t, step%calls, step/calls, 1000+n)
	}
	f.want(t, "5.2: a walk")
	return true
}

// Every row of a few calls, on up to three books, from sizes around a page's edge.
func TestEveryShortWalk(t *testing.T) {
	for _, size := range []int{0, 1, page - 1, page, page + 1} {
		walked := 0
		var on func(steps []int)
		on = func(steps []int) {
			if !walk(t, size, steps) {
				return
			}
			walked++
			if t.Failed() {
				t.Fatalf("5.2: from %d cells, steps %v", size, steps)
			}
			if len(steps) == 4 {
				return
			}
			for step := range 3 * calls {
				on(append(slices.Clone(steps), step))
			}
		}
		on(nil)
		if walked < 1000 {
			t.Errorf("5.2: %d walks alone", walked)
		}
	}
}

// The calls of a long walk hang on a number that is turned from step to step.
func TestLongWalks(t *testing.T) {
	for seed := range uint32(12) {
		f := newFamily()
		turned := seed
		next := func(below int) int {
			turned = turned*1664525 + 1013904223
			return int(turned>>16) % below
		}
		for n := range 600 {
			k := next(len(f.real))
			switch at := next(40); {
			case at < 20:
				f.add(t, k, n)
			case at < 35:
				f.set(t, k, next(len(f.slow[k].cells)+2)-1, n)
			case at < 38:
				f.mark(t, k)
			case len(f.real) > 4:
				f.drop(k)
			}
			wantLive(t, "a long walk", f.live(), f.real...)
			if n%20 == 0 {
				f.want(t, "5.3: a long walk")
			}
			if t.Failed() {
				t.Fatalf("5.2: walk %d, step %d", seed, n)
			}
		}
		f.want(t, "5.3: a long walk")
	}
}

// The same calls on two tell the same.
func TestTheSameAgain(t *testing.T) {
	a, b := newFamily(), newFamily()
	for n := range 200 {
		for _, f := range []*slowFamily{a, b} {
			f.do(t, n*7%5, n*3%len(f.real), n)
		}
		if len(a.real) != len(b.real) {
			t.Fatal("R5: another number of books")
		}
	}
	for k := range a.real {
		wantLive(t, "the same again", a.real[k].Live(), b.real[k])
		wantCells(t, "R5: the same again", b.real[k], a.slow[k].cells)
	}
}
