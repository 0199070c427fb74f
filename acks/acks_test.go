package acks_test

import (
	"math"
	"reflect"
	"slices"
	"testing"

	"argosy/acks"
	"argosy/api"
	"argosy/frame"
	"argosy/spans"
)

type runs = [][2]int

// end is behind the last number that may be.
const end = api.Most + 1

// plain is a Seen as the chapter words it: all that was ever noted is kept.
type plain struct {
	noted  map[int]bool
	newest int
	owed   bool
}

func newPlain() *plain {
	return &plain{noted: map[int]bool{}, newest: -1}
}

func (p *plain) note(num int, elicits bool) bool {
	if num < 0 || num > api.Most || p.noted[num] || p.newest-num > 64 {
		return false
	}
	p.noted[num] = true
	p.newest = max(p.newest, num)
	p.owed = p.owed || elicits
	return true
}

// runs are those of what is in the Set, each first and last number, the greatest first.
func (p *plain) runs() runs {
	var l runs
	for n := p.newest; n >= 0 && p.newest-n <= 64; n-- {
		switch {
		case !p.noted[n]:
		case len(l) > 0 && l[len(l)-1][0] == n+1:
			l[len(l)-1][0] = n
		default:
			l = append(l, [2]int{n, n})
		}
	}
	return l
}

// of notes all of these numbers, in order; none elicits.
func of(t *testing.T, nums ...int) *acks.Seen {
	t.Helper()
	s := acks.New()
	for _, n := range nums {
		if !s.Note(n, false) {
			t.Fatalf("7.1: Note(%d): false, behind %v", n, s.Spans())
		}
	}
	return s
}

// upTo is the numbers from from to to, to among them.
func upTo(from, to int) []int {
	var l []int
	for n := from; n <= to; n++ {
		l = append(l, n)
	}
	return l
}

// want holds all that a Seen tells against what it is to be; l: runs, each first and last number, the greatest first.
func want(t *testing.T, s *acks.Seen, newest int, owed bool, l ...[2]int) {
	t.Helper()
	if s.Newest() != newest || s.Owed != owed {
		t.Fatalf("7.1: newest %d, Owed %t, not %d, %t", s.Newest(), s.Owed, newest, owed)
	}
	var set runs
	count := 0
	for _, r := range slices.Backward(l) {
		set = append(set, [2]int{r[0], r[1] + 1})
		count += r[1] + 1 - r[0]
	}
	if !slices.Equal(s.Spans(), set) || s.Count() != count {
		t.Fatalf("7.1: the Set: %v, not %v", s.Spans(), set)
	}
	for _, r := range l {
		if !s.Has(r[0]) || !s.Has(r[1]) || s.Has(r[0]-1) || s.Has(r[1]+1) {
			t.Fatalf("7.1: Has, about %v", r)
		}
	}
	wantFrame(t, s, l[:min(8, len(l))]...)
}

// wantFrame holds Frame against an Ack of these runs, twice, as asking changes nothing.
func wantFrame(t *testing.T, s *acks.Seen, l ...[2]int) {
	t.Helper()
	for range 2 {
		f, ok := s.Frame()
		if len(l) == 0 {
			if ok || !reflect.DeepEqual(f, api.Frame{}) {
				t.Fatalf("7.1: Frame of none: %+v, %t", f, ok)
			}
			continue
		}
		if !ok || !frame.Same([]api.Frame{f}, []api.Frame{{Kind: api.Ack, Spans: l}}) || f.Note != 0 {
			t.Fatalf("7.1: Frame: %+v, %t, not of %v", f, ok, l)
		}
		if !frame.Right(f) {
			t.Fatalf("7.1: Frame: %+v is not right", f)
		}
	}
}

// wantRefused notes these numbers, that are all to be refused, and change nothing.
func wantRefused(t *testing.T, s *acks.Seen, nums ...int) {
	t.Helper()
	newest, owed, set := s.Newest(), s.Owed, s.Spans()
	f, ok := s.Frame()
	for _, n := range nums {
		for _, elicits := range []bool{true, false} {
			if s.Note(n, elicits) {
				t.Fatalf("7.1: Note(%d, %t): true, behind %v", n, elicits, set)
			}
			g, still := s.Frame()
			if s.Newest() != newest || s.Owed != owed || !slices.Equal(s.Spans(), set) || still != ok || !reflect.DeepEqual(f, g) {
				t.Fatalf("R3: Note(%d, %t), refused: newest %d, Owed %t, %v, %+v", n, elicits, s.Newest(), s.Owed, s.Spans(), g)
			}
		}
	}
}

// TestExample: 7.1, the chapter's example.
func TestExample(t *testing.T) {
	s := acks.New()
	if !s.Note(3, true) || s.Note(3, true) {
		t.Error("7.1: Note 3, Note 3")
	}
	want(t, s, 3, true, [2]int{3, 3})
}

// TestNew: 7.1, one that noted nothing; Told of none.
func TestNew(t *testing.T) {
	s := acks.New()
	want(t, s, -1, false)
	s.Told()
	want(t, s, -1, false)
	wantRefused(t, s, -1, end)
	if s.First(0) != 0 || s.All(0, 1) || !s.All(0, 0) || !slices.Equal(s.Gaps(0, end), runs{{0, end}}) {
		t.Errorf("7.1: the Set of a new one: %v", s.Gaps(0, end))
	}
}

// TestFirstOne: 7.1, whatever the first number is, it may be noted, and nothing else is in the Set.
func TestFirstOne(t *testing.T) {
	for _, n := range []int{0, 1, 2, 63, 64, 65, 66, 1000, 1 << 31, 1 << 40, api.Most - 65, api.Most - 1, api.Most} {
		want(t, of(t, n), n, false, [2]int{n, n})
		s := acks.New()
		if !s.Note(n, true) {
			t.Fatalf("7.1: Note(%d, true), the first one", n)
		}
		want(t, s, n, true, [2]int{n, n})
		wantRefused(t, s, n)
	}
}

// TestInOrder: 7.1, numbers one behind the other, far more than Seen.
func TestInOrder(t *testing.T) {
	for _, from := range []int{0, 1, 64, 1 << 31, api.Most - 299} {
		s := acks.New()
		for n := from; n < from+300; n++ {
			if !s.Note(n, n == from+100) {
				t.Fatalf("7.1: Note(%d)", n)
			}
			want(t, s, n, n >= from+100, [2]int{max(from, n-64), n})
		}
		wantRefused(t, s, upTo(max(0, from-3), from+299)...)
	}
}

// TestOutOfOrder: 7.1, numbers that swap, fill gaps and come twice; which runs they make, step by step.
func TestOutOfOrder(t *testing.T) {
	s := acks.New()
	for _, c := range []struct {
		num    int
		ok     bool
		newest int
		l      runs
	}{
		{10, true, 10, runs{{10, 10}}},
		{8, true, 10, runs{{10, 10}, {8, 8}}},
		{12, true, 12, runs{{12, 12}, {10, 10}, {8, 8}}},
		{8, false, 12, runs{{12, 12}, {10, 10}, {8, 8}}},
		{9, true, 12, runs{{12, 12}, {8, 10}}},
		{0, true, 12, runs{{12, 12}, {8, 10}, {0, 0}}},
		{12, false, 12, runs{{12, 12}, {8, 10}, {0, 0}}},
		{11, true, 12, runs{{8, 12}, {0, 0}}},
		{9, false, 12, runs{{8, 12}, {0, 0}}},
		{13, true, 13, runs{{8, 13}, {0, 0}}},
		{7, true, 13, runs{{7, 13}, {0, 0}}},
		{0, false, 13, runs{{7, 13}, {0, 0}}},
		{64, true, 64, runs{{64, 64}, {7, 13}, {0, 0}}},
		{65, true, 65, runs{{64, 65}, {7, 13}}},
		{0, false, 65, runs{{64, 65}, {7, 13}}},
		{1, true, 65, runs{{64, 65}, {7, 13}, {1, 1}}},
		{74, true, 74, runs{{74, 74}, {64, 65}, {10, 13}}},
		{9, false, 74, runs{{74, 74}, {64, 65}, {10, 13}}},
		{14, true, 74, runs{{74, 74}, {64, 65}, {10, 14}}},
	} {
		if s.Note(c.num, false) != c.ok {
			t.Fatalf("7.1: Note(%d) is not %t", c.num, c.ok)
		}
		want(t, s, c.newest, false, c.l...)
	}
}

// TestNotedTwice: 7.1, each number that was noted, again, in whatever order they came.
func TestNotedTwice(t *testing.T) {
	nums := []int{30, 5, 6, 7, 94, 31, 93, 60, 33}
	s := of(t, nums...)
	want(t, s, 94, false, [2]int{93, 94}, [2]int{60, 60}, [2]int{33, 33}, [2]int{30, 31})
	wantRefused(t, s, nums...)
	slices.Reverse(nums)
	wantRefused(t, s, nums...)
}

// TestSeenBehind: 7.1, just api.Seen behind the newest, and nearer, is noted; one more behind, and farther, is refused.
func TestSeenBehind(t *testing.T) {
	for _, newest := range []int{64, 65, 66, 127, 128, 129, 1000, 1 << 31, 1<<40 + 7, api.Most - 1, api.Most} {
		for back := 1; back <= 64; back++ {
			s := of(t, newest)
			if !s.Note(newest-back, false) {
				t.Fatalf("7.1: Note(%d), %d behind %d", newest-back, back, newest)
			}
			if back == 1 {
				want(t, s, newest, false, [2]int{newest - 1, newest})
			} else {
				want(t, s, newest, false, [2]int{newest, newest}, [2]int{newest - back, newest - back})
			}
		}
		s := of(t, newest, newest-64, newest-63)
		for _, back := range []int{65, 66, 67, 100, 128, 129, 300, 1 << 20, 1 << 32, 1 << 50, newest - 1, newest} {
			if back > 64 && back <= newest {
				wantRefused(t, s, newest-back)
			}
		}
		wantRefused(t, s, newest-64, newest-63, newest)
	}
}

// TestNearTheBeginning: 7.1, as long as the newest is not above api.Seen, nothing is too far behind: 0 is noted, behind 65 no more.
func TestNearTheBeginning(t *testing.T) {
	for newest := 1; newest <= 64; newest++ {
		s := of(t, newest, 0)
		if newest == 1 {
			want(t, s, 1, false, [2]int{0, 1})
		} else {
			want(t, s, newest, false, [2]int{newest, newest}, [2]int{0, 0})
		}
		wantRefused(t, s, 0, newest, -1)
	}
	s := of(t, 65)
	wantRefused(t, s, 0)
	want(t, of(t, 65, 1), 65, false, [2]int{65, 65}, [2]int{1, 1})
}

// TestLeaving: 7.1, what leaves the Set when a newer one comes: whole runs, a run's beginning, all, nothing; none of it may be noted again.
func TestLeaving(t *testing.T) {
	for _, c := range []struct {
		nums  []int
		newer int
		l     runs
	}{
		{[]int{0}, 64, runs{{64, 64}, {0, 0}}},
		{[]int{0}, 65, runs{{65, 65}}},
		{[]int{0, 1}, 65, runs{{65, 65}, {1, 1}}},
		{upTo(0, 64), 65, runs{{1, 65}}},
		{upTo(0, 64), 66, runs{{66, 66}, {2, 64}}},
		{upTo(0, 64), 128, runs{{128, 128}, {64, 64}}},
		{upTo(0, 64), 129, runs{{129, 129}}},
		{upTo(0, 64), 1 << 40, runs{{1 << 40, 1 << 40}}},
		{upTo(0, 64), api.Most, runs{{api.Most, api.Most}}},
		{upTo(10, 20), 79, runs{{79, 79}, {15, 20}}},
		{upTo(10, 20), 84, runs{{84, 84}, {20, 20}}},
		{upTo(10, 20), 85, runs{{85, 85}}},
		{[]int{3, 5, 6, 9, 40}, 67, runs{{67, 67}, {40, 40}, {9, 9}, {5, 6}, {3, 3}}},
		{[]int{3, 5, 6, 9, 40}, 68, runs{{68, 68}, {40, 40}, {9, 9}, {5, 6}}},
		{[]int{3, 5, 6, 9, 40}, 70, runs{{70, 70}, {40, 40}, {9, 9}, {6, 6}}},
		{[]int{3, 5, 6, 9, 40}, 74, runs{{74, 74}, {40, 40}}},
		{[]int{40, 9, 6, 5, 3}, 105, runs{{105, 105}}},
		{[]int{api.Most - 65, api.Most - 64}, api.Most, runs{{api.Most, api.Most}, {api.Most - 64, api.Most - 64}}},
	} {
		s := of(t, append(slices.Clone(c.nums), c.newer)...)
		want(t, s, c.newer, false, c.l...)
		wantRefused(t, s, c.nums...)
		want(t, s, c.newer, false, c.l...)
	}
}

// TestStaysOut: 7.1, what left the Set, or could not be noted any more, stays out, whatever comes behind.
func TestStaysOut(t *testing.T) {
	s := of(t, 2, 100)
	for _, n := range []int{101, 36, 90, 37, 99, 166, 150, 1000, 999, 936} {
		wantRefused(t, s, 2, 0, 1, 35)
		s.Note(n, true)
		if s.Has(2) || s.Has(0) || s.Has(1) || s.Has(35) {
			t.Errorf("7.1: behind Note(%d): %v", n, s.Spans())
		}
	}
	want(t, s, 1000, true, [2]int{999, 1000}, [2]int{936, 936})
	wantRefused(t, s, 2, 100, 101, 166, 935)
}

// TestOwed: 7.1, Owed comes by one that elicits and is noted, stays until it is Told, and comes again.
func TestOwed(t *testing.T) {
	s := acks.New()
	step := func(num int, elicits, ok, owed bool) {
		t.Helper()
		if s.Note(num, elicits) != ok || s.Owed != owed {
			t.Fatalf("7.1: Note(%d, %t): Owed %t", num, elicits, s.Owed)
		}
	}
	step(0, false, true, false)
	step(1, false, true, false)
	step(1, true, false, false)
	step(-1, true, false, false)
	step(end, true, false, false)
	step(2, true, true, true)
	step(3, false, true, true)
	step(5, true, true, true)
	step(4, false, true, true)
	step(4, false, false, true)
	step(-1, false, false, true)
	step(400, false, true, true)
	s.Told()
	want(t, s, 400, false, [2]int{400, 400})
	step(2, true, false, false)
	step(335, true, false, false)
	step(400, true, false, false)
	step(399, false, true, false)
	step(336, true, true, true)
	s.Told()
	s.Told()
	want(t, s, 400, false, [2]int{399, 400}, [2]int{336, 336})
	step(401, false, true, false)
	step(api.Most, true, true, true)
	step(api.Most-1, false, true, true)
}

// TestTold: 7.1, Told changes nothing but Owed; Frame is no Told.
func TestTold(t *testing.T) {
	s := of(t, 3, 5, 9)
	s.Told()
	want(t, s, 9, false, [2]int{9, 9}, [2]int{5, 5}, [2]int{3, 3})
	s.Note(4, true)
	wantFrame(t, s, [2]int{9, 9}, [2]int{3, 5})
	want(t, s, 9, true, [2]int{9, 9}, [2]int{3, 5})
	s.Told()
	want(t, s, 9, false, [2]int{9, 9}, [2]int{3, 5})
	wantRefused(t, s, 3, 4, 5, 9)
}

// TestNewest: 7.1, the greatest behind each Note, whatever comes behind it.
func TestNewest(t *testing.T) {
	s := acks.New()
	for _, c := range []struct{ num, newest int }{
		{-1, -1}, {end, -1}, {math.MaxInt, -1}, {math.MinInt, -1}, {0, 0}, {0, 0}, {2, 2}, {1, 2}, {9, 9}, {8, 9}, {5, 9}, {9, 9}, {10, 10}, {end, 10}, {80, 80},
		{10, 80}, {16, 80}, {79, 80}, {81, 81}, {1 << 40, 1 << 40}, {81, 1 << 40}, {1<<40 - 64, 1 << 40}, {api.Most - 1, api.Most - 1}, {api.Most, api.Most}, {api.Most - 2, api.Most}, {end, api.Most}, {0, api.Most},
	} {
		s.Note(c.num, true)
		if s.Newest() != c.newest {
			t.Fatalf("7.1: Newest behind Note(%d): %d, not %d", c.num, s.Newest(), c.newest)
		}
	}
}

// TestWrong: 7.1, numbers that may not be: none changes anything, of a new one and of others.
func TestWrong(t *testing.T) {
	wrong := []int{-1, -2, -63, -64, -65, -66, -1 << 40, math.MinInt + 64, math.MinInt + 1, math.MinInt, end, end + 1, end + 63, end + 64, end + 65, math.MaxInt - 64, math.MaxInt - 1, math.MaxInt}
	for _, nums := range [][]int{nil, {0}, {5}, {63, 0}, {1000, 990, 936}, {api.Most}, {api.Most, api.Most - 64, api.Most - 1}} {
		s := of(t, nums...)
		wantRefused(t, s, wrong...)
		s.Note(min(api.Most-3, s.Newest()+1), true)
		wantRefused(t, s, wrong...)
	}
}

// apart is how many runs of one number, each two above the one behind it, the last one to.
func apart(many, to int) (nums []int, l runs) {
	for k := range many {
		nums = append(nums, to-2*(many-1-k))
		l = append(l, [2]int{to - 2*k, to - 2*k})
	}
	return nums, l
}

// TestFrameRuns: 7.1, an Ack of one run, of several, of just MaxSpans, and of more: the greatest alone.
func TestFrameRuns(t *testing.T) {
	wantFrame(t, of(t, 0), [2]int{0, 0})
	wantFrame(t, of(t, api.Most), [2]int{api.Most, api.Most})
	wantFrame(t, of(t, 4, 5, 6), [2]int{4, 6})
	wantFrame(t, of(t, upTo(0, 64)...), [2]int{0, 64})
	wantFrame(t, of(t, 7, 1, 3, 2, 9), [2]int{9, 9}, [2]int{7, 7}, [2]int{1, 3})
	for many := 1; many <= 33; many++ {
		for _, to := range []int{64, 65, 1 << 31, api.Most} {
			nums, l := apart(many, to)
			s := of(t, nums...)
			want(t, s, to, false, l...)
			wantFrame(t, s, l[:min(many, 8)]...)
			slices.Reverse(nums)
			wantFrame(t, of(t, nums...), l[:min(many, 8)]...)
		}
	}
}

// TestFrameLongRuns: 7.1, runs of several lengths, just MaxSpans and one more, in the order of their numbers, not of their lengths.
func TestFrameLongRuns(t *testing.T) {
	nums := slices.Concat(upTo(2, 9), upTo(11, 11), upTo(13, 15), upTo(20, 24), upTo(26, 27), upTo(30, 30), upTo(40, 49), upTo(60, 61))
	l := runs{{60, 61}, {40, 49}, {30, 30}, {26, 27}, {20, 24}, {13, 15}, {11, 11}, {2, 9}}
	s := of(t, nums...)
	want(t, s, 61, false, l...)
	s.Note(63, false)
	want(t, s, 63, false, append(runs{{63, 63}}, l...)...)
	wantFrame(t, s, append(runs{{63, 63}}, l[:7]...)...)
	s.Note(62, false)
	wantFrame(t, s, append(runs{{60, 63}}, l[1:]...)...)
	s.Note(0, false)
	wantFrame(t, s, append(runs{{60, 63}}, l[1:]...)...)
	if !s.Has(0) {
		t.Error("7.1: what is not in the Ack is in the Set")
	}
}

// TestFrameOfTheSet: 7.1, the Ack is of the Set's runs, of however many a user adds, up to both ends of what may be.
func TestFrameOfTheSet(t *testing.T) {
	s := of(t, 5)
	s.Add(7, 10)
	wantFrame(t, s, [2]int{7, 9}, [2]int{5, 5})
	s.Drop(5, 8)
	wantFrame(t, s, [2]int{8, 9})
	s.Drop(0, 100)
	wantFrame(t, s)
	s.Add(math.MinInt, math.MaxInt)
	wantFrame(t, s, [2]int{0, api.Most})
	s.Drop(1, 2)
	wantFrame(t, s, [2]int{2, api.Most}, [2]int{0, 0})
}

// TestFrameIsLaid: 7.1, the Ack is one that package frame lays and reads.
func TestFrameIsLaid(t *testing.T) {
	for _, to := range []int{64, 5000, api.Most} {
		nums, l := apart(20, to)
		f, _ := of(t, nums...).Frame()
		b, e := frame.Lay(f)
		back, e2 := frame.Read(b)
		if e != api.OK || e2 != api.OK || !frame.Same(back, []api.Frame{{Kind: api.Ack, Spans: l[:8]}}) {
			t.Errorf("7.1: Frame %+v, laid: %d, %d", f, e, e2)
		}
	}
}

// TestFrameIsNew: R2, the Ack's Spans share nothing with the Seen, nor with another Ack, spare room too.
func TestFrameIsNew(t *testing.T) {
	for _, many := range []int{1, 3, 7, 8, 9, 33} {
		nums, l := apart(many, 500)
		s := of(t, nums...)
		one, _ := s.Frame()
		other, _ := s.Frame()
		kept := slices.Clone(other.Spans[:cap(other.Spans)])
		room := one.Spans[:cap(one.Spans)]
		for k := range room {
			room[k] = [2]int{-7, -8}
		}
		if !slices.Equal(other.Spans[:cap(other.Spans)], kept) {
			t.Errorf("R2: two Acks of %d runs share memory", many)
		}
		want(t, s, 500, false, l...)
		s.Note(501, false)
		s.Note(1000, false)
		if !slices.Equal(other.Spans, l[:min(many, 8)]) {
			t.Errorf("R2: an Ack of %d runs, behind more Notes: %v", many, other.Spans)
		}
	}
}

// TestEmbedded: the chapter's Ways and 7.1, a Seen has all methods of a Set, of what came.
func TestEmbedded(t *testing.T) {
	s := of(t, 0, 1, 2, 5, 7, 8)
	for n, in := range map[int]bool{-1: false, 0: true, 2: true, 3: false, 4: false, 5: true, 6: false, 7: true, 8: true, 9: false, api.Most: false} {
		if s.Has(n) != in || s.Set.Has(n) != in {
			t.Errorf("7.1: Has(%d) is not %t", n, in)
		}
	}
	if s.Count() != 6 || s.First(0) != 3 || s.First(5) != 6 || s.First(7) != 9 || s.First(20) != 20 || !s.All(0, 3) || s.All(0, 4) || !s.All(7, 9) {
		t.Errorf("7.1: Count %d, First %d, %d", s.Count(), s.First(0), s.First(7))
	}
	if !slices.Equal(s.Gaps(0, 10), runs{{3, 5}, {6, 7}, {9, 10}}) || !slices.Equal(s.Spans(), runs{{0, 3}, {5, 6}, {7, 9}}) {
		t.Errorf("7.1: Gaps %v, Spans %v", s.Gaps(0, 10), s.Spans())
	}
	s.Note(66, false)
	if s.Count() != 5 || s.First(0) != 0 || s.First(2) != 3 || !slices.Equal(s.Gaps(0, 67), runs{{0, 2}, {3, 5}, {6, 7}, {9, 66}}) {
		t.Errorf("7.1: what left: %d, %v", s.Count(), s.Gaps(0, 67))
	}
	both := spans.Union(s.Set, spans.Of(3))
	if !slices.Equal(both.Spans(), runs{{2, 4}, {5, 6}, {7, 9}, {66, 67}}) {
		t.Errorf("7.1: a Union with it: %v", both.Spans())
	}
}

// TestAddAndDrop: 7.1, Add and Drop, called of a Seen, do with its Set what a Set's do.
func TestAddAndDrop(t *testing.T) {
	s, set := of(t, 3, 9), spans.Of(3, 9)
	for _, c := range [][3]int{{0, 4, 6}, {1, 3, 5}, {0, 9, 12}, {1, 100, 200}, {0, 6, 6}, {0, -5, 1}, {1, 10, math.MaxInt}} {
		if c[0] == 0 {
			s.Add(c[1], c[2])
			set.Add(c[1], c[2])
		} else {
			s.Drop(c[1], c[2])
			set.Drop(c[1], c[2])
		}
		if !slices.Equal(s.Spans(), set.Spans()) || s.Owed {
			t.Errorf("7.1: behind %v: %v, not %v", c, s.Spans(), set.Spans())
		}
	}
}

// TestCopiedOut: 3.2 and 7.1, a Set copied out of a Seen, and a copy of a whole Seen: neither knows of the other.
func TestCopiedOut(t *testing.T) {
	s := of(t, 3, 4, 9)
	set := s.Set
	whole := *s
	s.Note(5, true)
	s.Note(70, true)
	if !slices.Equal(set.Spans(), runs{{3, 5}, {9, 10}}) {
		t.Errorf("7.1: a Set copied out, behind Notes: %v", set.Spans())
	}
	want(t, &whole, 9, false, [2]int{9, 9}, [2]int{3, 4})
	set.Add(0, 100)
	set.Drop(70, 71)
	want(t, s, 70, true, [2]int{70, 70}, [2]int{9, 9})
	whole.Note(8, false)
	whole.Told()
	want(t, s, 70, true, [2]int{70, 70}, [2]int{9, 9})
	want(t, &whole, 9, false, [2]int{8, 9}, [2]int{3, 4})
}

// TestTwo: R7, two of them know nothing of one another.
func TestTwo(t *testing.T) {
	a, b := acks.New(), acks.New()
	a.Note(5, true)
	want(t, b, -1, false)
	b.Note(100, false)
	b.Note(99, false)
	want(t, a, 5, true, [2]int{5, 5})
	b.Told()
	want(t, a, 5, true, [2]int{5, 5})
	a.Told()
	a.Note(6, false)
	want(t, b, 100, false, [2]int{99, 100})
}

// same plays one Note on both, and holds all that is told against each other.
func (p *plain) same(t *testing.T, s *acks.Seen, num int, elicits bool) {
	t.Helper()
	ok := p.note(num, elicits)
	if s.Note(num, elicits) != ok {
		t.Fatalf("7.1: Note(%d, %t) is not %t: newest %d, %v", num, elicits, ok, p.newest, s.Spans())
	}
	want(t, s, p.newest, p.owed, p.runs()...)
}

// TestEveryPlay: 7.1, every row of five numbers about the edges, each elicits or not, held against the chapter's words.
func TestEveryPlay(t *testing.T) {
	some := []int{0, 1, 2, 64, 65, 66, 129, 130}
	for _, base := range []int{0, 1, 1 << 40, api.Most - 129} {
		for row := range 8 * 8 * 8 * 8 * 8 {
			s, p := acks.New(), newPlain()
			for k, rest := 0, row; k < 5; k, rest = k+1, rest/8 {
				num, elicits := base+some[rest%8], (row>>k+row>>7)%4 == 0
				if s.Note(num, elicits) != p.note(num, elicits) || s.Newest() != p.newest || s.Owed != p.owed {
					t.Fatalf("7.1: row %d at %d: Note(%d, %t): newest %d, Owed %t", row, base, num, elicits, s.Newest(), s.Owed)
				}
			}
			want(t, s, p.newest, p.owed, p.runs()...)
		}
	}
}

// dice gives the same numbers 0 to below n each time.
type dice uint64

func (d *dice) below(n int) int {
	*d = *d*6364136223846793005 + 1442695040888963407
	return int(uint64(*d)>>33) % n
}

// TestLongPlay: 7.1, many numbers, lost, swapped, doubled and far behind, with Told between, held against the chapter's words.
func TestLongPlay(t *testing.T) {
	d := dice(7)
	for _, base := range []int{0, 300, 1 << 31, api.Most - 3000} {
		for _, wide := range []int{3, 20, 70, 140} {
			s, p := acks.New(), newPlain()
			for step := range 3000 {
				num := base + step - d.below(wide)
				if d.below(400) == 0 {
					num = []int{-1, end, math.MinInt, math.MaxInt, 0, base}[d.below(6)]
				}
				p.same(t, s, num, d.below(3) == 0)
				if d.below(4) == 0 {
					s.Told()
					p.owed = false
				}
			}
		}
	}
}

// TestMany: R1, very many numbers: what is kept, and asked, stays small.
func TestMany(t *testing.T) {
	s := acks.New()
	for n := range 1 << 19 {
		if !s.Note(2*n, false) || s.Note(2*n, true) || n > 33 && s.Note(2*n-65, true) {
			t.Fatalf("7.1: Note(%d)", 2*n)
		}
		if s.Count() > 33 {
			t.Fatalf("7.1: behind Note(%d) there are %d", 2*n, s.Count())
		}
	}
	const last = 1<<20 - 2
	_, l := apart(33, last)
	want(t, s, last, false, l...)
}
