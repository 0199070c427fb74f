package spans_test

import (
	"math"
	"slices"
	"sync"
	"testing"

	"argosy/api"
	"argosy/spans"
)

type runs = [][2]int

// end is behind the last number that may be.
const end = api.Most + 1

// is tells whether a set's runs, and what is said of them, are just these.
func is(s *spans.Set, want runs) bool {
	count := 0
	for _, r := range want {
		count += r[1] - r[0]
		for _, n := range []int{r[0], r[0] + (r[1]-r[0])/2, r[1] - 1} {
			if !s.Has(n) {
				return false
			}
		}
		if s.Has(r[0]-1) || s.Has(r[1]) {
			return false
		}
	}
	return slices.Equal(s.Spans(), want) && s.Count() == count
}

// of makes a set of runs by Add alone.
func of(l ...[2]int) spans.Set {
	var s spans.Set
	for _, r := range l {
		s.Add(r[0], r[1])
	}
	return s
}

// TestExample: 3.1, the chapter's example.
func TestExample(t *testing.T) {
	s := spans.Of(3, 1, 2, 7)
	if !is(&s, runs{{1, 4}, {7, 8}}) {
		t.Errorf("3.1: Of(3, 1, 2, 7): %v", s.Spans())
	}
}

// TestZero: 3.1, the zero Set has none, and can be added to.
func TestZero(t *testing.T) {
	var s spans.Set
	if s.Count() != 0 || len(s.Spans()) != 0 {
		t.Errorf("3.1: the zero Set: %d, %v", s.Count(), s.Spans())
	}
	for _, n := range []int{math.MinInt, -1, 0, 1, api.Most, end, math.MaxInt} {
		if s.Has(n) {
			t.Errorf("3.1: the zero Set: Has(%d)", n)
		}
		if got := s.First(n); got != max(n, 0) {
			t.Errorf("3.1: the zero Set: First(%d): %d", n, got)
		}
		if !s.All(n, n) || len(s.Gaps(n, n)) != 0 {
			t.Errorf("3.1: the zero Set: All and Gaps of none, at %d", n)
		}
	}
	if s.All(3, 4) || !slices.Equal(s.Gaps(3, 9), runs{{3, 9}}) || !slices.Equal(s.Gaps(math.MinInt, math.MaxInt), runs{{0, end}}) {
		t.Errorf("3.1: the zero Set: All, or Gaps: %v", s.Gaps(3, 9))
	}
	s.Drop(0, end)
	if !is(&s, nil) {
		t.Errorf("3.1: the zero Set, dropped from: %v", s.Spans())
	}
	s.Add(0, 1)
	if !is(&s, runs{{0, 1}}) {
		t.Errorf("3.1: the zero Set, added to: %v", s.Spans())
	}
}

// TestOf: 3.1, numbers in any order, more than once, that may not be, none.
func TestOf(t *testing.T) {
	for _, c := range []struct {
		n    []int
		want runs
	}{
		{nil, nil},
		{[]int{}, nil},
		{[]int{0}, runs{{0, 1}}},
		{[]int{5, 5, 5}, runs{{5, 6}}},
		{[]int{9, 8, 7}, runs{{7, 10}}},
		{[]int{1, 3, 5, 2}, runs{{1, 4}, {5, 6}}},
		{[]int{4, 1, 4, 2, 1}, runs{{1, 3}, {4, 5}}},
		{[]int{api.Most}, runs{{api.Most, end}}},
		{[]int{api.Most, 0, api.Most - 1}, runs{{0, 1}, {api.Most - 1, end}}},
		{[]int{-1}, nil},
		{[]int{end}, nil},
		{[]int{math.MinInt, -1, end, math.MaxInt}, nil},
		{[]int{-1, api.Most, 6, math.MaxInt, 0, end, math.MinInt}, runs{{0, 1}, {6, 7}, {api.Most, end}}},
	} {
		s := spans.Of(c.n...)
		if !is(&s, c.want) {
			t.Errorf("3.1: Of(%v...): %v, %d", c.n, s.Spans(), s.Count())
		}
	}
	none := spans.Of()
	if !is(&none, nil) {
		t.Errorf("3.1: Of(): %v", none.Spans())
	}
}

// TestUnion: 3.1, of none, of empty ones, of runs that touch, overlap, lie within others.
func TestUnion(t *testing.T) {
	for _, c := range []struct {
		s    []spans.Set
		want runs
	}{
		{nil, nil},
		{[]spans.Set{}, nil},
		{[]spans.Set{{}, spans.Of(), {}}, nil},
		{[]spans.Set{spans.Of(4, 2)}, runs{{2, 3}, {4, 5}}},
		{[]spans.Set{of([2]int{5, 9}), of([2]int{1, 5})}, runs{{1, 9}}},
		{[]spans.Set{of([2]int{5, 9}), of([2]int{1, 6})}, runs{{1, 9}}},
		{[]spans.Set{of([2]int{1, 20}), of([2]int{3, 5}, [2]int{7, 9})}, runs{{1, 20}}},
		{[]spans.Set{of([2]int{3, 5}, [2]int{7, 9}), of([2]int{1, 20})}, runs{{1, 20}}},
		{[]spans.Set{of([2]int{3, 5}, [2]int{7, 9}), {}, of([2]int{3, 4}, [2]int{5, 6}, [2]int{10, 11})}, runs{{3, 6}, {7, 9}, {10, 11}}},
		{[]spans.Set{of([2]int{3, 5}), of([2]int{3, 9}), of([2]int{3, 4})}, runs{{3, 9}}},
		{[]spans.Set{of([2]int{0, 7}), of([2]int{7, end})}, runs{{0, end}}},
		{[]spans.Set{of([2]int{0, end}), spans.Of(0, 9, api.Most)}, runs{{0, end}}},
	} {
		s := spans.Union(c.s...)
		if !is(&s, c.want) {
			t.Errorf("3.1: Union of %d: %v, not %v", len(c.s), s.Spans(), c.want)
		}
	}
	a, b, none := spans.Of(1, 2), spans.Of(3), spans.Union()
	s := spans.Union(a, b, a)
	if !is(&s, runs{{1, 4}}) || !is(&none, nil) {
		t.Errorf("3.1: Union: %v, of none %v", s.Spans(), none.Spans())
	}
}

// TestAdd: 3.1, to 10 to 20 and 30 to 40.
func TestAdd(t *testing.T) {
	for _, c := range []struct {
		from, to int
		want     runs
	}{
		{0, 5, runs{{0, 5}, {10, 20}, {30, 40}}},
		{0, 9, runs{{0, 9}, {10, 20}, {30, 40}}},
		{0, 10, runs{{0, 20}, {30, 40}}},
		{0, 11, runs{{0, 20}, {30, 40}}},
		{9, 10, runs{{9, 20}, {30, 40}}},
		{10, 11, runs{{10, 20}, {30, 40}}},
		{12, 15, runs{{10, 20}, {30, 40}}},
		{10, 20, runs{{10, 20}, {30, 40}}},
		{19, 21, runs{{10, 21}, {30, 40}}},
		{20, 21, runs{{10, 21}, {30, 40}}},
		{21, 22, runs{{10, 20}, {21, 22}, {30, 40}}},
		{21, 29, runs{{10, 20}, {21, 29}, {30, 40}}},
		{21, 30, runs{{10, 20}, {21, 40}}},
		{20, 29, runs{{10, 29}, {30, 40}}},
		{20, 30, runs{{10, 40}}},
		{15, 35, runs{{10, 40}}},
		{10, 40, runs{{10, 40}}},
		{5, 45, runs{{5, 45}}},
		{40, 41, runs{{10, 20}, {30, 41}}},
		{41, 42, runs{{10, 20}, {30, 40}, {41, 42}}},
		{0, end, runs{{0, end}}},
		{math.MinInt, math.MaxInt, runs{{0, end}}},
		{-5, 1, runs{{0, 1}, {10, 20}, {30, 40}}},
		{math.MinInt, 10, runs{{0, 20}, {30, 40}}},
		{-5, 0, runs{{10, 20}, {30, 40}}},
		{-9, -5, runs{{10, 20}, {30, 40}}},
		{25, 25, runs{{10, 20}, {30, 40}}},
		{25, 24, runs{{10, 20}, {30, 40}}},
		{35, 5, runs{{10, 20}, {30, 40}}},
		{math.MaxInt, math.MinInt, runs{{10, 20}, {30, 40}}},
		{api.Most, end, runs{{10, 20}, {30, 40}, {api.Most, end}}},
		{api.Most, math.MaxInt, runs{{10, 20}, {30, 40}, {api.Most, end}}},
		{api.Most, api.Most, runs{{10, 20}, {30, 40}}},
		{end, math.MaxInt, runs{{10, 20}, {30, 40}}},
		{end + 3, end + 9, runs{{10, 20}, {30, 40}}},
		{40, math.MaxInt, runs{{10, 20}, {30, end}}},
	} {
		s := of([2]int{10, 20}, [2]int{30, 40})
		s.Add(c.from, c.to)
		if !is(&s, c.want) {
			t.Errorf("3.1: Add(%d, %d): %v, not %v", c.from, c.to, s.Spans(), c.want)
		}
	}
}

// TestDrop: 3.1, from 10 to 20 and 30 to 40.
func TestDrop(t *testing.T) {
	for _, c := range []struct {
		from, to int
		want     runs
	}{
		{0, 5, runs{{10, 20}, {30, 40}}},
		{0, 10, runs{{10, 20}, {30, 40}}},
		{0, 11, runs{{11, 20}, {30, 40}}},
		{10, 11, runs{{11, 20}, {30, 40}}},
		{14, 15, runs{{10, 14}, {15, 20}, {30, 40}}},
		{11, 19, runs{{10, 11}, {19, 20}, {30, 40}}},
		{10, 20, runs{{30, 40}}},
		{9, 21, runs{{30, 40}}},
		{19, 20, runs{{10, 19}, {30, 40}}},
		{19, 30, runs{{10, 19}, {30, 40}}},
		{20, 30, runs{{10, 20}, {30, 40}}},
		{20, 31, runs{{10, 20}, {31, 40}}},
		{15, 35, runs{{10, 15}, {35, 40}}},
		{11, 39, runs{{10, 11}, {39, 40}}},
		{10, 39, runs{{39, 40}}},
		{11, 40, runs{{10, 11}}},
		{30, 40, runs{{10, 20}}},
		{10, 40, nil},
		{0, end, nil},
		{math.MinInt, math.MaxInt, nil},
		{-7, 12, runs{{12, 20}, {30, 40}}},
		{-7, -2, runs{{10, 20}, {30, 40}}},
		{15, 15, runs{{10, 20}, {30, 40}}},
		{16, 15, runs{{10, 20}, {30, 40}}},
		{35, 15, runs{{10, 20}, {30, 40}}},
		{math.MaxInt, math.MinInt, runs{{10, 20}, {30, 40}}},
		{35, math.MaxInt, runs{{10, 20}, {30, 35}}},
		{end, math.MaxInt, runs{{10, 20}, {30, 40}}},
	} {
		s := of([2]int{10, 20}, [2]int{30, 40})
		s.Drop(c.from, c.to)
		if !is(&s, c.want) {
			t.Errorf("3.1: Drop(%d, %d): %v, not %v", c.from, c.to, s.Spans(), c.want)
		}
	}
}

// TestEnds: 3.1, sets up to both ends of what may be.
func TestEnds(t *testing.T) {
	s := of([2]int{math.MinInt, math.MaxInt})
	if !is(&s, runs{{0, end}}) || s.Count() != 1<<62 || !s.All(math.MinInt, math.MaxInt) || len(s.Gaps(math.MinInt, math.MaxInt)) != 0 {
		t.Errorf("3.1: all: %v, %d", s.Spans(), s.Count())
	}
	s.Drop(0, 1)
	s.Drop(api.Most, math.MaxInt)
	if !is(&s, runs{{1, api.Most}}) || !slices.Equal(s.Gaps(math.MinInt, math.MaxInt), runs{{0, 1}, {api.Most, end}}) {
		t.Errorf("3.1: all but the ends: %v, %v", s.Spans(), s.Gaps(math.MinInt, math.MaxInt))
	}
	s.Drop(2, api.Most-1)
	s.Add(api.Most, end)
	s.Add(math.MinInt, 1)
	if !is(&s, runs{{0, 2}, {api.Most - 1, end}}) || s.Count() != 4 {
		t.Errorf("3.1: the ends alone: %v", s.Spans())
	}
}

// TestHas: 3.1, each number about a set's edges, and numbers that may not be.
func TestHas(t *testing.T) {
	s := spans.Of(0, 1, 2, 5, 7, 8, api.Most)
	for n, want := range map[int]bool{
		math.MinInt: false, -1: false, 0: true, 1: true, 2: true, 3: false, 4: false, 5: true, 6: false, 7: true, 8: true, 9: false,
		api.Most - 1: false, api.Most: true, end: false, math.MaxInt: false,
	} {
		if s.Has(n) != want {
			t.Errorf("3.1: Has(%d) is not %v", n, want)
		}
	}
}

// TestAll: 3.1, within a run, beyond it, over a gap, of none.
func TestAll(t *testing.T) {
	s := of([2]int{0, 3}, [2]int{5, 9}, [2]int{api.Most - 1, end})
	for _, c := range []struct {
		from, to int
		want     bool
	}{
		{0, 3, true}, {0, 1, true}, {2, 3, true}, {0, 4, false}, {2, 4, false}, {3, 4, false}, {3, 5, false}, {4, 6, false},
		{5, 9, true}, {6, 8, true}, {4, 9, false}, {5, 10, false}, {0, 9, false}, {2, 6, false},
		{-4, 3, true}, {math.MinInt, 1, true}, {-4, 4, false}, {-4, 0, true}, {-9, -4, true},
		{3, 3, true}, {4, 3, true}, {9, 0, true}, {math.MaxInt, math.MinInt, true},
		{api.Most, end, true}, {api.Most - 1, math.MaxInt, true}, {api.Most - 2, math.MaxInt, false}, {end, math.MaxInt, true}, {end + 5, end + 9, true},
	} {
		if s.All(c.from, c.to) != c.want {
			t.Errorf("3.1: All(%d, %d) is not %v", c.from, c.to, c.want)
		}
	}
}

// TestFirst: 3.1, at a number that is in the set, at one that is not, below 0, at both ends.
func TestFirst(t *testing.T) {
	s := of([2]int{0, 3}, [2]int{5, 9}, [2]int{api.Most - 1, end})
	for n, want := range map[int]int{
		math.MinInt: 3, -1: 3, 0: 3, 1: 3, 2: 3, 3: 3, 4: 4, 5: 9, 7: 9, 8: 9, 9: 9, 50: 50,
		api.Most - 2: api.Most - 2, api.Most - 1: end, api.Most: end, end: end, end + 7: end + 7, math.MaxInt: math.MaxInt,
	} {
		if got := s.First(n); got != want {
			t.Errorf("3.1: First(%d): %d, not %d", n, got, want)
		}
	}
	s.Drop(0, 1)
	for n, want := range map[int]int{math.MinInt: 0, -1: 0, 0: 0, 1: 3} {
		if got := s.First(n); got != want {
			t.Errorf("3.1: First(%d) of a set without 0: %d, not %d", n, got, want)
		}
	}
}

// TestGaps: 3.1, of none, of all, from and to within a run, at its ends and beyond them.
func TestGaps(t *testing.T) {
	s := of([2]int{2, 4}, [2]int{6, 9}, [2]int{api.Most, end})
	for _, c := range []struct {
		from, to int
		want     runs
	}{
		{0, 12, runs{{0, 2}, {4, 6}, {9, 12}}},
		{0, 2, runs{{0, 2}}}, {0, 3, runs{{0, 2}}}, {0, 4, runs{{0, 2}}}, {1, 5, runs{{1, 2}, {4, 5}}},
		{2, 4, nil}, {2, 3, nil}, {3, 4, nil}, {7, 8, nil}, {6, 9, nil},
		{2, 9, runs{{4, 6}}}, {3, 7, runs{{4, 6}}}, {4, 6, runs{{4, 6}}}, {4, 5, runs{{4, 5}}}, {5, 6, runs{{5, 6}}}, {5, 7, runs{{5, 6}}},
		{8, 10, runs{{9, 10}}}, {9, 10, runs{{9, 10}}}, {100, 200, runs{{100, 200}}},
		{5, 5, nil}, {5, 4, nil}, {9, 2, nil}, {math.MaxInt, math.MinInt, nil},
		{-5, 1, runs{{0, 1}}}, {-5, 0, nil}, {-5, -1, nil},
		{math.MinInt, math.MaxInt, runs{{0, 2}, {4, 6}, {9, api.Most}}},
		{api.Most, math.MaxInt, nil}, {end, math.MaxInt, nil}, {api.Most - 1, math.MaxInt, runs{{api.Most - 1, api.Most}}},
	} {
		if got := s.Gaps(c.from, c.to); !slices.Equal(got, c.want) {
			t.Errorf("3.1: Gaps(%d, %d): %v, not %v", c.from, c.to, got, c.want)
		}
	}
	s.Drop(api.Most, end)
	if got := s.Gaps(8, math.MaxInt); !slices.Equal(got, runs{{9, end}}) {
		t.Errorf("3.1: Gaps(8, ..) up to the end: %v", got)
	}
}

// TestCopies: 3.2, a copy and the set it is of, whichever is changed, and both.
func TestCopies(t *testing.T) {
	begin := runs{{1, 4}, {6, 8}, {10, 20}}
	for name, change := range map[string]func(s *spans.Set){
		"Add apart":         func(s *spans.Set) { s.Add(30, 31) },
		"Add to the last":   func(s *spans.Set) { s.Add(20, 21) },
		"Add to the first":  func(s *spans.Set) { s.Add(0, 1) },
		"Add between":       func(s *spans.Set) { s.Add(4, 6) },
		"Add over all":      func(s *spans.Set) { s.Add(0, 50) },
		"Drop of the last":  func(s *spans.Set) { s.Drop(19, 20) },
		"Drop of the first": func(s *spans.Set) { s.Drop(1, 2) },
		"Drop within":       func(s *spans.Set) { s.Drop(12, 13) },
		"Drop of a run":     func(s *spans.Set) { s.Drop(6, 8) },
		"Drop of all":       func(s *spans.Set) { s.Drop(0, end) },
	} {
		first := spans.Of(1, 2, 3, 6, 7, 10, 11, 12, 13, 14, 15, 16, 17, 18, 19)
		second := first
		change(&second)
		if !is(&first, begin) || slices.Equal(second.Spans(), begin) {
			t.Errorf("3.2: %s of a copy: %v, %v", name, first.Spans(), second.Spans())
		}
		third := first
		change(&first)
		if !is(&third, begin) || !slices.Equal(first.Spans(), second.Spans()) {
			t.Errorf("3.2: %s behind a copy: %v, %v", name, third.Spans(), first.Spans())
		}
	}
}

// TestCopiesApart: 3.2, two copies of a set that each grow: behind Add, Drop, Of and Union, wherever there is spare room.
func TestCopiesApart(t *testing.T) {
	grown := of([2]int{0, 1}, [2]int{2, 3}, [2]int{4, 5})
	shrunk := of([2]int{0, 1}, [2]int{2, 3}, [2]int{4, 5}, [2]int{6, 9})
	shrunk.Drop(6, 9)
	for name, s := range map[string]spans.Set{
		"Add":   grown,
		"Drop":  shrunk,
		"Of":    spans.Of(0, 2, 4),
		"Union": spans.Union(spans.Of(4, 0), spans.Of(2)),
	} {
		one, other := s, s
		one.Add(10, 11)
		other.Add(20, 22)
		one.Drop(0, 1)
		other.Drop(4, 5)
		if !is(&s, runs{{0, 1}, {2, 3}, {4, 5}}) || !is(&one, runs{{2, 3}, {4, 5}, {10, 11}}) || !is(&other, runs{{0, 1}, {2, 3}, {20, 22}}) {
			t.Errorf("3.2: behind %s: %v, %v, %v", name, s.Spans(), one.Spans(), other.Spans())
		}
	}
}

// TestCopiesAtOnce: 3.2 and R7, copies know nothing of one another, whoever uses them.
func TestCopiesAtOnce(t *testing.T) {
	s := spans.Of(1, 5, 9)
	copies := make([]spans.Set, 8)
	var all sync.WaitGroup
	for k := range copies {
		copies[k] = s
		all.Add(1)
		go func() {
			defer all.Done()
			for n := range 100 {
				copies[k].Add(n*8+k, n*8+k+1)
				copies[k].Drop(5, 6)
			}
		}()
	}
	all.Wait()
	if !is(&s, runs{{1, 2}, {5, 6}, {9, 10}}) {
		t.Errorf("3.2: the set that was copied: %v", s.Spans())
	}
	for k := range copies {
		if !copies[k].Has(792+k) || copies[k].Has(5) || copies[k].Count() < 100 {
			t.Errorf("3.2: copy %d: %v", k, copies[k].Spans())
		}
	}
}

// TestUnionApart: 3.2, a Union and what it is of.
func TestUnionApart(t *testing.T) {
	list := []spans.Set{spans.Of(1, 2), spans.Of(8)}
	both, one := spans.Union(list...), spans.Union(list[0])
	both.Add(3, 5)
	one.Drop(1, 2)
	if !is(&list[0], runs{{1, 3}}) || !is(&list[1], runs{{8, 9}}) {
		t.Errorf("3.2: what a Union was of: %v, %v", list[0].Spans(), list[1].Spans())
	}
	list[0].Add(20, 30)
	list[1].Drop(8, 9)
	if !is(&both, runs{{1, 5}, {8, 9}}) || !is(&one, runs{{2, 3}}) {
		t.Errorf("3.2: a Union: %v, %v", both.Spans(), one.Spans())
	}
}

// holder embeds a Set, as the layers above do; Count is its own.
type holder struct {
	name string
	spans.Set
}

func (h *holder) Count() int { return -h.Set.Count() }

// TestEmbedded: the chapter's Ways and 3.2, promoted methods, one's own ahead of them, and a copy of all.
func TestEmbedded(t *testing.T) {
	var h holder
	h.Add(3, 5)
	h.Add(7, 8)
	h.Drop(3, 4)
	if !h.Has(4) || h.Has(3) || !h.All(7, 8) || h.First(4) != 5 || h.Count() != -2 || !is(&h.Set, runs{{4, 5}, {7, 8}}) || !slices.Equal(h.Gaps(4, 8), runs{{5, 7}}) {
		t.Errorf("3.1: embedded: %v", h.Spans())
	}
	second := h
	second.name = "second"
	second.Add(5, 7)
	h.Drop(7, 8)
	if !is(&h.Set, runs{{4, 5}}) || !is(&second.Set, runs{{4, 8}}) || h.name != "" {
		t.Errorf("3.2: embedded and copied: %v, %v", h.Spans(), second.Spans())
	}
	whole := spans.Union(h.Set, second.Set, spans.Of(0))
	if !is(&whole, runs{{0, 1}, {4, 8}}) {
		t.Errorf("3.1: Union of embedded ones: %v", whole.Spans())
	}
}

// few is how many numbers the plain sets of these tests may have.
const few = 7

// plain is a set of some of few numbers, one bit each.
type plain int

func (p plain) with(from, to int, in bool) plain {
	for n := max(from, 0); n < min(to, few); n++ {
		if in {
			p |= 1 << n
		} else {
			p &^= 1 << n
		}
	}
	return p
}

// runs gives the longest runs of numbers from from to to that are in it, or are not, each base higher.
func (p plain) runs(from, to, base int, in bool) runs {
	var l runs
	for n := max(from, 0); n < min(to, few); n++ {
		switch {
		case (p>>n&1 == 1) != in:
		case len(l) > 0 && l[len(l)-1][1] == base+n:
			l[len(l)-1][1]++
		default:
			l = append(l, [2]int{base + n, base + n + 1})
		}
	}
	return l
}

// set makes the Set of it, each number base higher.
func (p plain) set(base int) spans.Set {
	var l []int
	for n := range few {
		if p>>n&1 == 1 {
			l = append(l, base+n)
		}
	}
	return spans.Of(l...)
}

// TestEverySmallSet: 3.1 and 3.3, every set of few numbers, at both ends of what may be, and every from and to.
func TestEverySmallSet(t *testing.T) {
	for _, base := range []int{0, end - few} {
		for p := range plain(1 << few) {
			s := p.set(base)
			if !is(&s, p.runs(0, few, base, true)) {
				t.Fatalf("3.3: %b at %d: %v", p, base, s.Spans())
			}
			for from := range few + 1 {
				for to := range few + 1 {
					oneRange(t, p, base, from, to)
				}
			}
		}
	}
}

// oneRange holds all that takes a from and a to against the plain set.
func oneRange(t *testing.T, p plain, base, from, to int) {
	t.Helper()
	added, dropped := p.set(base), p.set(base)
	gaps := p.runs(from, to, base, false)
	if got := added.Gaps(base+from, base+to); !slices.Equal(got, gaps) {
		t.Fatalf("3.3: %b at %d: Gaps(%d, %d): %v, not %v", p, base, from, to, got, gaps)
	}
	if added.All(base+from, base+to) != (len(gaps) == 0) {
		t.Fatalf("3.3: %b at %d: All(%d, %d)", p, base, from, to)
	}
	if n := added.First(base + from); len(gaps) > 0 && n != gaps[0][0] || len(gaps) == 0 && from < to && n < base+to {
		t.Fatalf("3.3: %b at %d: First(%d): %d", p, base, from, n)
	}
	added.Add(base+from, base+to)
	dropped.Drop(base+from, base+to)
	if !is(&added, p.with(from, to, true).runs(0, few, base, true)) {
		t.Fatalf("3.3: %b at %d: Add(%d, %d): %v", p, base, from, to, added.Spans())
	}
	if !is(&dropped, p.with(from, to, false).runs(0, few, base, true)) {
		t.Fatalf("3.3: %b at %d: Drop(%d, %d): %v", p, base, from, to, dropped.Spans())
	}
}

// TestEveryUnion: 3.1 and 3.3, each two sets of few numbers.
func TestEveryUnion(t *testing.T) {
	for p := range plain(1 << few) {
		for q := range plain(1 << few) {
			s := spans.Union(p.set(0), q.set(0))
			if !is(&s, (p|q).runs(0, few, 0, true)) {
				t.Fatalf("3.3: Union of %b and %b: %v", p, q, s.Spans())
			}
		}
	}
}

// dice gives the same numbers 0 to below n each time.
type dice uint64

func (d *dice) below(n int) int {
	*d = *d*6364136223846793005 + 1442695040888963407
	return int(uint64(*d)>>33) % n
}

// TestLongPlay: 3.3, much added and dropped, held against one bool a number.
func TestLongPlay(t *testing.T) {
	const wide = 300
	d := dice(7)
	for _, base := range []int{-20, 1 << 40, end - wide + 20} {
		var s spans.Set
		var in [wide]bool
		for step := range 4000 {
			from := d.below(wide)
			to := min(from+d.below(1+step%40), wide)
			add := d.below(9) < 5
			if add {
				s.Add(base+from, base+to)
			} else {
				s.Drop(base+from, base+to)
			}
			for n := from; n < to; n++ {
				in[n] = add && base+n >= 0 && base+n <= api.Most
			}
			if !slices.Equal(s.Spans(), plainRuns(in[:], base)) {
				t.Fatalf("3.3: step %d at %d: %v, not %v", step, base, s.Spans(), plainRuns(in[:], base))
			}
		}
		for n, want := range in {
			if s.Has(base+n) != want {
				t.Fatalf("3.3: Has(%d) is not %v", base+n, want)
			}
		}
	}
}

func plainRuns(in []bool, base int) runs {
	var l runs
	for n, yes := range in {
		switch {
		case !yes:
		case len(l) > 0 && l[len(l)-1][1] == base+n:
			l[len(l)-1][1]++
		default:
			l = append(l, [2]int{base + n, base + n + 1})
		}
	}
	return l
}

// TestAnyOrder: 3.3, the same numbers, put in one by one in many orders, by runs, by Of and by Union.
func TestAnyOrder(t *testing.T) {
	numbers := []int{0, 1, 2, 4, 6, 7, 9, 20, 21, 22, 23, 40, api.Most - 1, api.Most}
	want := runs{{0, 3}, {4, 5}, {6, 8}, {9, 10}, {20, 24}, {40, 41}, {api.Most - 1, end}}
	d := dice(3)
	for range 300 {
		for k := len(numbers) - 1; k > 0; k-- {
			j := d.below(k + 1)
			numbers[k], numbers[j] = numbers[j], numbers[k]
		}
		cut := d.below(len(numbers))
		made := spans.Of(numbers...)
		joined := spans.Union(spans.Of(numbers[:cut]...), spans.Of(numbers[cut/2:]...), spans.Of(numbers[:cut/2]...))
		var added, left spans.Set
		left.Add(0, end)
		for _, n := range numbers {
			added.Add(n, n+1)
			left.Drop(n, n+1)
		}
		if !is(&made, want) || !is(&joined, want) || !is(&added, want) || !slices.Equal(left.Gaps(0, end), want) {
			t.Fatalf("3.3: %v: %v, %v, %v, %v", numbers, made.Spans(), joined.Spans(), added.Spans(), left.Spans())
		}
	}
}

// TestMany: 3.3, a set of many runs.
func TestMany(t *testing.T) {
	const many = 200000
	l := make([]int, 0, 2*many)
	for k := many - 1; k >= 0; k-- {
		l = append(l, 3*k, 3*k)
	}
	s := spans.Of(l...)
	other := spans.Of(1)
	s = spans.Union(s, other, s)
	if s.Count() != many+1 || len(s.Spans()) != many || len(s.Gaps(0, 3*many)) != many || s.First(0) != 2 || s.First(3*many-3) != 3*many-2 {
		t.Fatalf("3.3: many: %d, %d runs", s.Count(), len(s.Spans()))
	}
	s.Add(1, 3*many)
	if !is(&s, runs{{0, 3 * many}}) {
		t.Errorf("3.3: many, filled: %d runs", len(s.Spans()))
	}
}

// fill overwrites a list and its spare room.
func fill(l runs) {
	l = l[:cap(l)]
	for k := range l {
		l[k] = [2]int{77, 5}
	}
}

// TestAnswersAreNew: R2, an answer shares nothing with the set, nor with another answer.
func TestAnswersAreNew(t *testing.T) {
	s := spans.Of(2, 3, 8, 12)
	for name, answer := range map[string]func() runs{
		"Spans": s.Spans,
		"Gaps":  func() runs { return s.Gaps(0, 10) },
	} {
		one, other := answer(), answer()
		kept := slices.Clone(other)
		fill(one)
		if !slices.Equal(other, kept) || !is(&s, runs{{2, 4}, {8, 9}, {12, 13}}) || !slices.Equal(answer(), kept) {
			t.Errorf("R2: %s: shares memory: %v, %v", name, other, s.Spans())
		}
	}
}

// TestArgumentsStand: R2, a list that is spread is not changed, its spare room included, and not kept.
func TestArgumentsStand(t *testing.T) {
	room := []int{9, 3, 5, 3, -1, 8, 1}
	s := spans.Of(room[:5]...)
	if !slices.Equal(room, []int{9, 3, 5, 3, -1, 8, 1}) {
		t.Errorf("R2: Of has changed its list: %v", room)
	}
	for k := range room {
		room[k] = 4
	}
	list := []spans.Set{spans.Of(9, 1), spans.Of(4, 2), spans.Of(7)}
	u := spans.Union(list[:2]...)
	if !is(&list[0], runs{{1, 2}, {9, 10}}) || !is(&list[1], runs{{2, 3}, {4, 5}}) || !is(&list[2], runs{{7, 8}}) {
		t.Error("R2: Union has changed its list")
	}
	clear(list)
	if !is(&s, runs{{3, 4}, {5, 6}, {9, 10}}) || !is(&u, runs{{1, 3}, {4, 5}, {9, 10}}) {
		t.Errorf("R2: a list was kept: %v, %v", s.Spans(), u.Spans())
	}
}

// TestAsking: R3 and R4, what only asks changes nothing, and is answered the same again.
func TestAsking(t *testing.T) {
	s := spans.Of(2, 3, 8)
	for range 2 {
		if s.Has(4) || !s.All(2, 4) || s.Count() != 3 || s.First(2) != 4 || !slices.Equal(s.Gaps(0, 9), runs{{0, 2}, {4, 8}}) || !slices.Equal(s.Spans(), runs{{2, 4}, {8, 9}}) {
			t.Errorf("R4: %v", s.Spans())
		}
	}
}
