package table_test

import (
	"bytes"
	"math"
	"runtime"
	"slices"
	"testing"

	"argosy/api"
	"argosy/credit"
	"argosy/recv"
	"argosy/send"
	"argosy/table"
)

// greatest is the greatest ID.
const greatest = 4<<40 + 3

// wantLists asks twice, as asking changes nothing.
func wantLists(t *testing.T, x *table.Table, sends, recvs []int) {
	t.Helper()
	for range 2 {
		if got := x.Sends(); !slices.Equal(got, sends) {
			t.Fatalf("15.1: Sends: %v, not %v", got, sends)
		}
		if got := x.Recvs(); !slices.Equal(got, recvs) {
			t.Fatalf("15.1: Recvs: %v, not %v", got, recvs)
		}
	}
}

// wantCounts holds what is granted of both kinds.
func wantCounts(t *testing.T, x *table.Table, users, messages credit.Grant) {
	t.Helper()
	if a, b := x.Counts(0), x.Counts(1); *a != users || *b != messages {
		t.Fatalf("15.1: Counts: %+v and %+v, not %+v and %+v", *a, *b, users, messages)
	}
}

// wantOpen holds the answer, and what it changes: one more is opened, nothing else.
func wantOpen(t *testing.T, x *table.Table, kind, id int, e api.Errno) {
	t.Helper()
	sends, recvs, users, messages := x.Sends(), x.Recvs(), *x.Counts(0), *x.Counts(1)
	if got, err := x.Open(kind); got != id || err != e {
		t.Fatalf("15.1: Open(%d): %d, %d, not %d, %d", kind, got, err, id, e)
	}
	if e == api.OK {
		sends = append(sends, id)
		slices.Sort(sends)
		wantNew(t, x, id)
	}
	wantLists(t, x, sends, recvs)
	wantCounts(t, x, users, messages)
}

// wantNew holds that this one was just opened: nothing was written, and what goes has its number.
func wantNew(t *testing.T, x *table.Table, id int) {
	t.Helper()
	s, ok := x.Mine(id)
	if !ok || s == nil || s.Size() != 0 || s.Credit != (credit.Credit{Limit: 400}) || s.Done() {
		t.Fatalf("15.1: Mine(%d): %+v, %v", id, s, ok)
	}
}

// wantGoes holds that what goes of this stream has its number.
func wantGoes(t *testing.T, s *send.Stream, id int) {
	t.Helper()
	if e := s.Write([]byte{byte(id)}); e != api.OK {
		t.Fatalf("15.1: Write of %d: %d", id, e)
	}
	if f, _, ok := s.Next(99, 99); !ok || f.ID != id {
		t.Fatalf("15.1: what goes of %d: %+v, %v", id, f, ok)
	}
}

// wantTheirs holds the answer, and, of a refusal, that it changes nothing.
func wantTheirs(t *testing.T, x *table.Table, id int, e api.Errno) *recv.Stream {
	t.Helper()
	sends, recvs, users, messages := x.Sends(), x.Recvs(), *x.Counts(0), *x.Counts(1)
	s, err := x.Theirs(id)
	if err != e || (s != nil) != (e == api.OK) {
		t.Fatalf("15.1: Theirs(%d): %p, %d, not %d", id, s, err, e)
	}
	if e == api.OK {
		recvs = x.Recvs()
		if again, ok := x.Has(id); !ok || again != s {
			t.Fatalf("15.1: Has(%d), behind Theirs: %p, %v, not %p", id, again, ok, s)
		}
	}
	wantLists(t, x, sends, recvs)
	wantCounts(t, x, users, messages)
	return s
}

// wantFresh holds that to this one nothing came.
func wantFresh(t *testing.T, s *recv.Stream) {
	t.Helper()
	if s.Top() != 0 || s.Rest() != 0 || s.Ended() || s.Count() != 0 || s.Grant != (credit.Grant{Room: 400, Told: 400}) {
		t.Fatalf("15.1: a new one: %+v", s)
	}
}

// wantHas holds that these are there, each the same one each time, and that asking changes nothing.
func wantHas(t *testing.T, x *table.Table, ids ...int) {
	t.Helper()
	recvs := x.Recvs()
	for _, id := range ids {
		s, ok := x.Has(id)
		if again, _ := x.Has(id); !ok || s == nil || again != s {
			t.Fatalf("15.1: Has(%d): %p, %v, then %p", id, s, ok, again)
		}
	}
	wantLists(t, x, x.Sends(), recvs)
}

func wantHasNot(t *testing.T, x *table.Table, ids ...int) {
	t.Helper()
	recvs := x.Recvs()
	for _, id := range ids {
		if s, ok := x.Has(id); s != nil || ok {
			t.Fatalf("15.1: Has(%d): %p, %v", id, s, ok)
		}
	}
	wantLists(t, x, x.Sends(), recvs)
}

func wantMine(t *testing.T, x *table.Table, ids ...int) {
	t.Helper()
	for _, id := range ids {
		s, ok := x.Mine(id)
		if again, _ := x.Mine(id); !ok || s == nil || again != s {
			t.Fatalf("15.1: Mine(%d): %p, %v, then %p", id, s, ok, again)
		}
	}
}

func wantMineNot(t *testing.T, x *table.Table, ids ...int) {
	t.Helper()
	sends := x.Sends()
	for _, id := range ids {
		if s, ok := x.Mine(id); s != nil || ok {
			t.Fatalf("15.1: Mine(%d): %p, %v", id, s, ok)
		}
	}
	wantLists(t, x, sends, x.Recvs())
}

func wantRaise(t *testing.T, x *table.Table, kind, n int, may bool) {
	t.Helper()
	sends, recvs, users, messages := x.Sends(), x.Recvs(), *x.Counts(0), *x.Counts(1)
	if x.Raise(kind, n) != may {
		t.Fatalf("15.1: Raise(%d, %d): %v", kind, n, !may)
	}
	wantLists(t, x, sends, recvs)
	wantCounts(t, x, users, messages)
}

// wantMay holds that so many more of a kind may be opened, from that n on, and no more.
func wantMay(t *testing.T, x *table.Table, who, kind, n, more int) {
	t.Helper()
	for k := range more {
		wantOpen(t, x, kind, 4*(n+k)+2*kind+who, api.OK)
	}
	wantOpen(t, x, kind, 0, api.ErrLimit)
}

// fresh is the Grant of a kind at the beginning.
func fresh() credit.Grant {
	return credit.Grant{Room: 6, Told: 6}
}

// dice is a row of numbers that look thrown, the same at each run.
type dice uint64

func (d *dice) below(n int) int {
	*d = *d*6364136223846793005 + 1442695040888963407
	return int(uint64(*d)>>33) % n
}

func (d *dice) from(l ...int) int { return l[d.below(len(l))] }

// ends are numbers at both ends of an int, and at both ends of what may be.
func ends() []int {
	return []int{math.MinInt, math.MinInt + 1, math.MinInt + 2, math.MinInt + 3, math.MinInt / 2, math.MinInt/4 - 1, math.MinInt / 4, -api.Most - 1, -api.Most, -1 << 42, -1<<40 - 1, -1 << 32, -5, -4, -3, -2, -1,
		1 << 61, 1<<61 + 1, api.Most - 1, api.Most, api.Most + 1, api.Most + 2, 3 << 61, math.MaxInt - 3, math.MaxInt - 2, math.MaxInt - 1, math.MaxInt}
}

// TestExample: 15.1, the chapter's example.
func TestExample(t *testing.T) {
	if id := table.ID(1, 0, 2); id != 9 {
		t.Fatalf("15.1: ID(1, 0, 2): %d", id)
	}
}

// TestID: 15.1, 4 n + 2 kind + who, at both ends of n; of each who and kind.
func TestID(t *testing.T) {
	for _, c := range [][4]int{
		{0, 0, 0, 0}, {1, 0, 0, 1}, {0, 1, 0, 2}, {1, 1, 0, 3}, {0, 0, 1, 4}, {1, 0, 1, 5}, {0, 1, 1, 6}, {1, 1, 1, 7},
		{0, 0, 2, 8}, {1, 0, 2, 9}, {0, 1, 2, 10}, {1, 1, 2, 11}, {0, 1, 5, 22}, {1, 1, 1000, 4003},
		{0, 0, 1<<40 - 1, 4398046511100}, {1, 1, 1<<40 - 1, 4398046511103},
		{0, 0, 1 << 40, 4398046511104}, {1, 0, 1 << 40, 4398046511105}, {0, 1, 1 << 40, 4398046511106}, {1, 1, 1 << 40, greatest},
	} {
		if id := table.ID(c[0], c[1], c[2]); id != c[3] {
			t.Fatalf("15.1: ID(%d, %d, %d): %d, not %d", c[0], c[1], c[2], id, c[3])
		}
	}
	next := 0
	for n := range 1000 {
		for kind := range 2 {
			for who := range 2 {
				if id := table.ID(who, kind, n); id != next {
					t.Fatalf("15.1: ID(%d, %d, %d): %d, not %d", who, kind, n, id, next)
				}
				next++
			}
		}
	}
}

// TestIDNone: 15.1, -1, if one of the three may not be: an end that is none does not count as the nearest here.
func TestIDNone(t *testing.T) {
	none := append(ends(), 2, 3, 1<<40+1)
	for _, bad := range none {
		for _, n := range []int{0, 1, 2, 1 << 40} {
			for one := range 2 {
				if id := table.ID(bad, one, n); id != -1 {
					t.Fatalf("15.1: ID(%d, %d, %d): %d", bad, one, n, id)
				}
				if id := table.ID(one, bad, n); id != -1 {
					t.Fatalf("15.1: ID(%d, %d, %d): %d", one, bad, n, id)
				}
			}
		}
	}
	for _, n := range append(ends(), 1<<40+1, 1<<40+2, 1<<41, 1<<42) {
		for both := range 4 {
			if id := table.ID(both&1, both>>1, n); id != -1 {
				t.Fatalf("15.1: ID(%d, %d, %d): %d", both&1, both>>1, n, id)
			}
		}
	}
	for _, a := range none {
		for _, b := range none {
			for _, n := range none {
				if n == 2 || n == 3 {
					continue
				}
				if id := table.ID(a, b, n); id != -1 {
					t.Fatalf("15.1: ID(%d, %d, %d): %d", a, b, n, id)
				}
			}
		}
	}
}

// TestNew: 15.1, a new one has nothing; it may open MaxStreams of each kind, and has granted as many; another end counts as the nearest.
func TestNew(t *testing.T) {
	for _, who := range append(ends(), 0, 1, 2, 3, 6) {
		x, nearest := table.New(who), 0
		if who > 0 {
			nearest = 1
		}
		wantLists(t, x, nil, nil)
		wantCounts(t, x, fresh(), fresh())
		wantMineNot(t, x, 0, 1, 2, 3, 4, 5)
		wantHasNot(t, x, 0, 1, 2, 3, 4, 5)
		wantTheirs(t, x, nearest, api.ErrState)
		wantTheirs(t, x, 2+nearest, api.ErrState)
		wantMay(t, x, nearest, 0, 0, 6)
		wantMay(t, x, nearest, 1, 0, 6)
		wantFresh(t, wantTheirs(t, x, 1-nearest, api.OK))
		wantFresh(t, wantTheirs(t, x, 3-nearest, api.OK))
	}
	if api.MaxStreams != 6 {
		t.Fatalf("15: MaxStreams %d", api.MaxStreams)
	}
}

// TestOpen: 15.1, of both kinds, up to MaxStreams of each, in turn or one behind the other: what one kind opens says nothing to the other.
func TestOpen(t *testing.T) {
	for who := range 2 {
		x := table.New(who)
		for n := range 6 {
			wantOpen(t, x, 0, 4*n+who, api.OK)
			wantOpen(t, x, 1, 4*n+2+who, api.OK)
		}
		for range 3 {
			wantOpen(t, x, 0, 0, api.ErrLimit)
			wantOpen(t, x, 1, 0, api.ErrLimit)
		}
		for kind := range 2 {
			y := table.New(who)
			wantMay(t, y, who, kind, 0, 6)
			wantMay(t, y, who, 1-kind, 0, 6)
			wantOpen(t, y, kind, 0, api.ErrLimit)
			wantLists(t, y, x.Sends(), nil)
		}
	}
}

// TestOpenKind: 15.1, ErrArg of another kind, wherever it is asked: also where no more may be opened. It opens nothing.
func TestOpenKind(t *testing.T) {
	for who := range 2 {
		x := table.New(who)
		for _, kind := range append(ends(), 2, 3, 6, 7) {
			wantOpen(t, x, kind, 0, api.ErrArg)
		}
		wantLists(t, x, nil, nil)
		wantMay(t, x, who, 0, 0, 6)
		wantOpen(t, x, 2, 0, api.ErrArg)
		wantMay(t, x, who, 1, 0, 6)
		for _, kind := range append(ends(), 2, 3, 6, 7) {
			wantOpen(t, x, kind, 0, api.ErrArg)
		}
	}
}

// TestRaise: 15.1, by one, by none, to less than it is, to a great number; ahead of the last that may be opened, and behind it.
func TestRaise(t *testing.T) {
	for who := range 2 {
		for kind := range 2 {
			x := table.New(who)
			for _, n := range []int{-1, 0, 1, 5, 6, math.MinInt} {
				wantRaise(t, x, kind, n, false)
			}
			wantMay(t, x, who, kind, 0, 6)
			wantRaise(t, x, kind, 6, false)
			wantOpen(t, x, kind, 0, api.ErrLimit)
			wantRaise(t, x, kind, 7, true)
			wantRaise(t, x, kind, 7, false)
			wantMay(t, x, who, kind, 6, 1)
			wantRaise(t, x, kind, 9, true)
			wantRaise(t, x, kind, 8, false)
			wantRaise(t, x, kind, 0, false)
			wantOpen(t, x, kind, 4*7+2*kind+who, api.OK)
			wantRaise(t, x, kind, 10, true)
			wantMay(t, x, who, kind, 8, 2)
			wantMay(t, x, who, 1-kind, 0, 6)
			wantRaise(t, x, kind, 1000, true)
			wantOpen(t, x, 1-kind, 0, api.ErrLimit)
			for n := 10; n < 1000; n++ {
				if id, e := x.Open(kind); id != 4*n+2*kind+who || e != api.OK {
					t.Fatalf("15.1: Open %d: %d, %d", n, id, e)
				}
			}
			wantOpen(t, x, kind, 0, api.ErrLimit)
			if len(x.Sends()) != 1006 || !slices.IsSorted(x.Sends()) {
				t.Fatalf("15.1: Sends: %v", x.Sends())
			}
		}
	}
}

// TestRaiseMost: 15.1, as Credit.Raise: up to api.Most, and not above it; what is refused leaves what may be opened as it was.
func TestRaiseMost(t *testing.T) {
	for _, most := range []int{1 << 40, 1<<40 + 1, 1<<40 + 2, api.Most - 1, api.Most} {
		x := table.New(1)
		for _, n := range []int{api.Most + 1, api.Most + 2, math.MaxInt - 1, math.MaxInt} {
			wantRaise(t, x, 0, n, false)
		}
		wantRaise(t, x, 0, most-1, true)
		wantRaise(t, x, 0, most, true)
		wantRaise(t, x, 0, most, false)
		wantRaise(t, x, 0, most-1, false)
		wantRaise(t, x, 0, math.MaxInt, false)
		for n := range 50 {
			wantOpen(t, x, 0, 4*n+1, api.OK)
		}
		wantMay(t, x, 1, 1, 0, 6)
	}
}

// TestRaiseKind: 15.1, of another kind it is false, and nothing may be opened by it.
func TestRaiseKind(t *testing.T) {
	x := table.New(0)
	for _, kind := range append(ends(), 2, 3, 6) {
		for _, n := range []int{-1, 0, 6, 7, 99, api.Most} {
			wantRaise(t, x, kind, n, false)
		}
	}
	wantMay(t, x, 0, 0, 0, 6)
	wantMay(t, x, 0, 1, 0, 6)
}

// TestMine: 15.1, what was opened; not what was not yet, nor the other end's, there or not, nor what is no ID.
func TestMine(t *testing.T) {
	for who := range 2 {
		x := table.New(who)
		wantTheirs(t, x, 8+1-who, api.OK)
		wantTheirs(t, x, 6+1-who, api.OK)
		wantMineNot(t, x, 0, 1, 2, 3)
		for range 3 {
			x.Open(0)
		}
		x.Open(1)
		wantMine(t, x, who, 4+who, 8+who, 2+who)
		wantMineNot(t, x, 12+who, 6+who, 10+who, 1-who, 3-who, 5-who, 7-who, 9-who, 11-who, 13-who)
		wantMineNot(t, x, append(ends(), greatest-3, greatest-2, greatest-1, greatest, greatest+1)...)
		wantLists(t, x, []int{who, 2 + who, 4 + who, 8 + who}, []int{1 - who, 3 - who, 5 - who, 7 - who, 9 - who})
		wantOpen(t, x, 1, 6+who, api.OK)
		wantMine(t, x, 6+who)
		wantMineNot(t, x, 10+who)
	}
}

// TestMineGoes: 15.1, each one that was opened has its own number, and what goes of it has that.
func TestMineGoes(t *testing.T) {
	for who := range 2 {
		x := table.New(who)
		x.Raise(1, 40)
		wantMay(t, x, who, 0, 0, 6)
		wantMay(t, x, who, 1, 0, 40)
		for _, id := range x.Sends() {
			s, _ := x.Mine(id)
			wantGoes(t, s, id)
		}
		for _, id := range x.Sends() {
			if s, _ := x.Mine(id); s.Size() != 1 || s.Used != 1 {
				t.Fatalf("15.1: Mine(%d), written to: %+v", id, s)
			}
		}
	}
}

// TestTheirsArg: 15.1, what is no ID: below 0, and above the greatest; whatever is granted.
func TestTheirsArg(t *testing.T) {
	for who := range 2 {
		for _, told := range []int{math.MinInt, 0, 6, math.MaxInt} {
			x := table.New(who)
			x.Counts(0).Told, x.Counts(1).Told = told, told
			for _, id := range append(ends(), greatest+1, greatest+2, greatest+3, greatest+4, 1<<43, 1<<62) {
				wantTheirs(t, x, id, api.ErrArg)
				wantHasNot(t, x, id)
			}
			wantLists(t, x, nil, nil)
		}
	}
}

// TestTheirsState: 15.1, this end's own: opened or not, granted or not, up to the greatest.
func TestTheirsState(t *testing.T) {
	for who := range 2 {
		x := table.New(who)
		x.Open(0)
		x.Open(1)
		for _, told := range []int{6, math.MinInt, 0, math.MaxInt} {
			x.Counts(0).Told, x.Counts(1).Told = told, told
			for _, n := range []int{0, 1, 5, 6, 7, 1 << 20, 1<<40 - 1, 1 << 40} {
				for kind := range 2 {
					wantTheirs(t, x, 4*n+2*kind+who, api.ErrState)
					wantHasNot(t, x, 4*n+2*kind+who)
				}
			}
		}
		wantLists(t, x, []int{who, 2 + who}, nil)
	}
}

// TestTheirsLimit: 15.1, just below what is granted, just that, and above it, of each kind apart.
func TestTheirsLimit(t *testing.T) {
	for who := range 2 {
		for kind := range 2 {
			x := table.New(who)
			id := func(n int) int { return 4*n + 2*kind + 1 - who }
			other := func(n int) int { return 4*n + 2*(1-kind) + 1 - who }
			for _, n := range []int{6, 7, 8, 100, 1<<40 - 1, 1 << 40} {
				wantTheirs(t, x, id(n), api.ErrLimit)
				wantTheirs(t, x, other(n), api.ErrLimit)
				wantHasNot(t, x, id(n), other(n))
			}
			wantLists(t, x, nil, nil)
			wantFresh(t, wantTheirs(t, x, id(5), api.OK))
			wantLists(t, x, nil, []int{id(0), id(1), id(2), id(3), id(4), id(5)})
			wantTheirs(t, x, id(6), api.ErrLimit)
			x.Counts(kind).Told = 8
			wantTheirs(t, x, id(8), api.ErrLimit)
			wantTheirs(t, x, other(6), api.ErrLimit)
			wantTheirs(t, x, id(7), api.OK)
			wantTheirs(t, x, id(6), api.OK)
			wantLists(t, x, nil, []int{id(0), id(1), id(2), id(3), id(4), id(5), id(6), id(7)})
			wantTheirs(t, x, other(5), api.OK)
			if l := x.Recvs(); len(l) != 14 || !slices.IsSorted(l) {
				t.Fatalf("15.1: Recvs: %v", l)
			}
		}
	}
}

// TestTheirsBrings: 15.1, with it all of its kind with a lesser n are there, of each n first: none above it, and none of the other kind.
func TestTheirsBrings(t *testing.T) {
	for who := range 2 {
		for kind := range 2 {
			for first := range 6 {
				x := table.New(who)
				wantTheirs(t, x, 4*first+2*kind+1-who, api.OK)
				var there []int
				for n := range 6 {
					id, other := 4*n+2*kind+1-who, 4*n+2*(1-kind)+1-who
					if n <= first {
						there = append(there, id)
						wantHas(t, x, id)
					} else {
						wantHasNot(t, x, id)
					}
					wantHasNot(t, x, other, 4*n+who, 4*n+2+who)
				}
				wantLists(t, x, nil, there)
				for _, id := range there {
					s, _ := x.Has(id)
					wantFresh(t, s)
					if again := wantTheirs(t, x, id, api.OK); again != s {
						t.Fatalf("15.1: Theirs(%d): another one", id)
					}
				}
				wantLists(t, x, nil, there)
				wantMay(t, x, who, kind, 0, 6)
			}
		}
	}
}

// TestTheirsAnew: 15.1, it again is the same one, with what came to it; those below it as well, whichever was asked for first.
func TestTheirsAnew(t *testing.T) {
	x := table.New(1)
	last := wantTheirs(t, x, 20, api.OK)
	last.Put(0, true, []byte("abc"))
	first := wantTheirs(t, x, 0, api.OK)
	wantFresh(t, first)
	first.Put(0, false, []byte("xy"))
	wantFresh(t, wantTheirs(t, x, 16, api.OK))
	for range 3 {
		if s := wantTheirs(t, x, 20, api.OK); s != last || s.Top() != 3 || !s.Ended() {
			t.Fatalf("15.1: Theirs(20): %+v", s)
		}
		if s := wantTheirs(t, x, 0, api.OK); s != first || s.Top() != 2 || s.Ended() {
			t.Fatalf("15.1: Theirs(0): %+v", s)
		}
	}
	wantLists(t, x, nil, []int{0, 4, 8, 12, 16, 20})
	if b, over, _ := last.Take(9); string(b) != "abc" || over != recv.Fin {
		t.Fatalf("15.1: taken: %q, %d", b, over)
	}
	if s, ok := x.Has(20); !ok || s.Over() != recv.Fin || s.Rest() != 0 {
		t.Fatalf("15.1: Has(20): %+v", s)
	}
	// One that is over is there as before.
	wantLists(t, x, nil, []int{0, 4, 8, 12, 16, 20})
	wantCounts(t, x, fresh(), fresh())
}

// TestHasFirst: 15.1, one that came along with another is the same one, asked for by Has first, or by Theirs.
func TestHasFirst(t *testing.T) {
	x := table.New(0)
	wantTheirs(t, x, 4*5+3, api.OK)
	s, _ := x.Has(4*2 + 3)
	s.Put(0, false, []byte("abc"))
	if again := wantTheirs(t, x, 4*2+3, api.OK); again != s || again.Top() != 3 {
		t.Fatalf("15.1: Theirs, behind Has: %+v", again)
	}
	down := wantTheirs(t, x, 4+3, api.OK)
	down.Put(0, false, []byte("de"))
	if again, ok := x.Has(4 + 3); !ok || again != down || again.Top() != 2 {
		t.Fatalf("15.1: Has, behind Theirs: %+v", again)
	}
}

// TestCounts: 15.1, the Grant of each kind, the same one each time; none of another kind.
func TestCounts(t *testing.T) {
	for who := range 2 {
		x := table.New(who)
		wantCounts(t, x, fresh(), fresh())
		if x.Counts(0) == x.Counts(1) || x.Counts(0) != x.Counts(0) || x.Counts(1) != x.Counts(1) {
			t.Fatal("15.1: Counts: not one Grant a kind")
		}
		for _, kind := range append(ends(), 2, 3, 6) {
			if g := x.Counts(kind); g != nil {
				t.Fatalf("15.1: Counts(%d): %+v", kind, *g)
			}
		}
		x.Counts(0).Eat(2)
		wantCounts(t, x, credit.Grant{Room: 6, Read: 2, Told: 6}, fresh())
		if n, due := x.Counts(0).Due(); n != 8 || due {
			t.Fatalf("15.1: Due: %d, %v", n, due)
		}
		x.Counts(1).Eat(3)
		if n, due := x.Counts(1).Due(); n != 9 || !due {
			t.Fatalf("15.1: Due: %d, %v", n, due)
		}
		if n := x.Counts(1).Tell(); n != 9 {
			t.Fatalf("15.1: Tell: %d", n)
		}
		wantCounts(t, x, credit.Grant{Room: 6, Read: 2, Told: 6}, credit.Grant{Room: 6, Read: 3, Told: 9})
		wantMay(t, x, who, 0, 0, 6)
		wantMay(t, x, who, 1, 0, 6)
	}
}

// TestTold: 15.1, what is granted is what was told: an Eat alone grants nothing, the Tell behind it does, of its kind alone.
func TestTold(t *testing.T) {
	for who := range 2 {
		for kind := range 2 {
			x := table.New(who)
			id := func(n int) int { return 4*n + 2*kind + 1 - who }
			x.Counts(kind).Tell()
			wantTheirs(t, x, id(6), api.ErrLimit)
			x.Counts(kind).Eat(4)
			wantTheirs(t, x, id(6), api.ErrLimit)
			wantTheirs(t, x, id(9), api.ErrLimit)
			wantHasNot(t, x, id(0), id(6))
			if n := x.Counts(kind).Tell(); n != 10 {
				t.Fatalf("15.1: Tell: %d", n)
			}
			wantTheirs(t, x, id(10), api.ErrLimit)
			wantTheirs(t, x, 4*6+2*(1-kind)+1-who, api.ErrLimit)
			wantTheirs(t, x, id(6), api.OK)
			wantHasNot(t, x, id(7), id(9))
			wantTheirs(t, x, id(9), api.OK)
			wantHas(t, x, id(7), id(8), id(9))
			if l := x.Recvs(); len(l) != 10 || l[9] != id(9) {
				t.Fatalf("15.1: Recvs: %v", l)
			}
		}
	}
}

// TestToldByHand: 15.1, Told counts as it is, whoever set it: of one below, what is there is refused as well, but there as before.
func TestToldByHand(t *testing.T) {
	x := table.New(0)
	s := wantTheirs(t, x, 4*4+1, api.OK)
	for _, told := range []int{4, 1, 0, -1, math.MinInt} {
		x.Counts(0).Told = told
		wantTheirs(t, x, 4*4+1, api.ErrLimit)
		wantHas(t, x, 1, 5, 9, 13, 17)
		wantLists(t, x, nil, []int{1, 5, 9, 13, 17})
		e := api.ErrLimit
		if told > 0 {
			e = api.OK
		}
		wantTheirs(t, x, 1, e)
	}
	x.Counts(0).Told = 5
	if again := wantTheirs(t, x, 4*4+1, api.OK); again != s {
		t.Fatal("15.1: Theirs(17): another one")
	}
	wantTheirs(t, x, 4*5+1, api.ErrLimit)
	wantTheirs(t, x, 4*5+3, api.OK)
}

// TestGreat: 15.1, as many as an ID tells may be granted, and then be there with one call: each is to be had by its number.
func TestGreat(t *testing.T) {
	for who := range 2 {
		for kind := range 2 {
			x := table.New(who)
			id := func(n int) int { return 4*n + 2*kind + 1 - who }
			x.Counts(kind).Told = 1 << 40
			wantTheirs(t, x, id(1<<40), api.ErrLimit)
			x.Counts(kind).Told = math.MaxInt
			top, e := x.Theirs(id(1 << 40))
			if e != api.OK || top == nil {
				t.Fatalf("15.1: Theirs(%d): %d", id(1<<40), e)
			}
			top.Put(0, false, []byte("top"))
			for _, n := range []int{0, 1, 5, 6, 1 << 20, 1 << 32, 1<<40 - 1} {
				s, ok := x.Has(id(n))
				if !ok || s == nil || s == top {
					t.Fatalf("15.1: Has(%d): %p, %v", id(n), s, ok)
				}
				wantFresh(t, s)
				if again, e := x.Theirs(id(n)); e != api.OK || again != s {
					t.Fatalf("15.1: Theirs(%d): %p, %d, not %p", id(n), again, e, s)
				}
				if s, ok := x.Has(4*n + 2*(1-kind) + 1 - who); ok || s != nil {
					t.Fatalf("15.1: Has of the other kind, %d: %p", n, s)
				}
			}
			if again, ok := x.Has(id(1 << 40)); !ok || again != top || again.Top() != 3 {
				t.Fatalf("15.1: Has(%d): %+v, %v", id(1<<40), again, ok)
			}
		}
	}
}

// TestMany: 15.1, a great many that are there, none of them asked for by itself, take little memory; all are told, rising.
func TestMany(t *testing.T) {
	const many = 1 << 18
	x := table.New(1)
	x.Counts(0).Told, x.Counts(1).Told = many, many
	var ahead, behind runtime.MemStats
	runtime.ReadMemStats(&ahead)
	x.Theirs(4 * (many - 1))
	x.Theirs(4*(many-1) + 2)
	runtime.ReadMemStats(&behind)
	if n := behind.TotalAlloc - ahead.TotalAlloc; n > many {
		t.Fatalf("15.1: %d bytes for two streams", n)
	}
	l := x.Recvs()
	if len(l) != 2*many {
		t.Fatalf("15.1: %d Recvs", len(l))
	}
	for k, id := range l {
		if id != 2*k {
			t.Fatalf("15.1: Recvs: %d at %d", id, k)
		}
	}
}

// TestHas: 15.1, what is there; not what is not yet, nor this end's, opened or not, nor what is no ID.
func TestHas(t *testing.T) {
	for who := range 2 {
		x := table.New(who)
		x.Open(0)
		x.Open(1)
		wantHasNot(t, x, 0, 1, 2, 3)
		wantTheirs(t, x, 8+1-who, api.OK)
		wantHas(t, x, 1-who, 5-who, 9-who)
		wantHasNot(t, x, 13-who, 3-who, 7-who, 11-who, who, 2+who, 4+who, 8+who)
		wantHasNot(t, x, append(ends(), greatest-3, greatest-2, greatest-1, greatest, greatest+1, greatest+2)...)
		wantTheirs(t, x, 6+1-who, api.OK)
		wantHas(t, x, 3-who, 7-who)
		wantHasNot(t, x, 11-who, 13-who)
		// Has makes nothing be there.
		wantLists(t, x, []int{who, 2 + who}, []int{1 - who, 3 - who, 5 - who, 7 - who, 9 - who})
	}
}

// TestRefusals: R3, no ID ahead of this end's, this end's ahead of what is not granted; another kind ahead of no more; none changes anything.
func TestRefusals(t *testing.T) {
	for who := range 2 {
		x := table.New(who)
		wantTheirs(t, x, greatest+1+who, api.ErrArg)
		wantTheirs(t, x, -4+who, api.ErrArg)
		wantTheirs(t, x, -4+1-who, api.ErrArg)
		wantTheirs(t, x, greatest-1+who, api.ErrState)
		wantTheirs(t, x, 4*6+who, api.ErrState)
		wantTheirs(t, x, 4*6+1-who, api.ErrLimit)
		wantMay(t, x, who, 0, 0, 6)
		wantMay(t, x, who, 1, 0, 6)
		wantOpen(t, x, 2, 0, api.ErrArg)
		wantOpen(t, x, -1, 0, api.ErrArg)
		wantRaise(t, x, 2, 7, false)
		wantRaise(t, x, 0, 6, false)
		wantOpen(t, x, 0, 0, api.ErrLimit)
		wantOpen(t, x, 1, 0, api.ErrLimit)
		wantHasNot(t, x, 0, 1, 2, 3)
		wantRaise(t, x, 0, 7, true)
		wantMay(t, x, who, 0, 6, 1)
		wantTheirs(t, x, 1-who, api.OK)
	}
}

// TestOrder: 15.1, rising, with both kinds among them, in whatever order they were opened, or came.
func TestOrder(t *testing.T) {
	x := table.New(0)
	for _, kind := range []int{1, 1, 1, 0, 1, 0} {
		x.Open(kind)
	}
	wantLists(t, x, []int{0, 2, 4, 6, 10, 14}, nil)
	for _, id := range []int{23, 5, 1, 13, 3} {
		wantTheirs(t, x, id, api.OK)
	}
	wantLists(t, x, []int{0, 2, 4, 6, 10, 14}, []int{1, 3, 5, 7, 9, 11, 13, 15, 19, 23})
	y := table.New(1)
	for _, kind := range []int{0, 0, 1, 0} {
		y.Open(kind)
	}
	wantTheirs(t, y, 6, api.OK)
	wantLists(t, y, []int{1, 3, 5, 9}, []int{2, 6})
	wantTheirs(t, y, 0, api.OK)
	wantLists(t, y, []int{1, 3, 5, 9}, []int{0, 2, 6})
}

// TestListsAreNew: R2, what Sends and Recvs answered is the user's: changed, or put behind, it changes nothing; kept, it stays as it was.
func TestListsAreNew(t *testing.T) {
	x := table.New(0)
	for n := range 5 {
		sends, recvs := x.Sends(), x.Recvs()
		wasSends, wasRecvs := slices.Clone(sends), slices.Clone(recvs)
		x.Open(n % 2)
		wantTheirs(t, x, 4*n+2*(n%2)+1, api.OK)
		if !slices.Equal(sends, wasSends) || !slices.Equal(recvs, wasRecvs) {
			t.Fatalf("R2: kept lists: %v, %v, not %v, %v", sends, recvs, wasSends, wasRecvs)
		}
	}
	sends, recvs := []int{0, 2, 4, 6, 8}, []int{1, 3, 5, 7, 9, 11, 13, 15, 17}
	wantLists(t, x, sends, recvs)
	for range 2 {
		for _, l := range [][]int{x.Sends(), x.Recvs()} {
			l = l[:cap(l)]
			for k := range l {
				l[k] = -7
			}
			_ = append(l[:1], -8, -9)
		}
		wantLists(t, x, sends, recvs)
	}
	a, b := x.Sends(), x.Sends()
	c, d := x.Recvs(), x.Recvs()
	a[0], c[0] = -7, -7
	if !slices.Equal(b, sends) || !slices.Equal(d, recvs) {
		t.Fatalf("R2: two lists share: %v, %v", b, d)
	}
	wantMine(t, x, sends...)
	wantHas(t, x, recvs...)
}

// TestApart: R7, two tables of one end know nothing of one another.
func TestApart(t *testing.T) {
	x, y := table.New(1), table.New(1)
	x.Raise(0, 9)
	x.Open(0)
	x.Open(1)
	wantTheirs(t, x, 8, api.OK)
	x.Counts(1).Eat(5)
	x.Counts(1).Tell()
	wantLists(t, y, nil, nil)
	wantCounts(t, y, fresh(), fresh())
	wantMineNot(t, y, 1, 3)
	wantHasNot(t, y, 0, 4, 8)
	wantTheirs(t, y, 4*6+2, api.ErrLimit)
	wantMay(t, y, 1, 0, 0, 6)
	wantLists(t, x, []int{1, 3}, []int{0, 4, 8})
	a, _ := x.Mine(1)
	a.Write([]byte("abc"))
	if b, _ := y.Mine(1); b == a || b.Size() != 0 {
		t.Fatalf("R7: Mine(1): %+v", b)
	}
	c := wantTheirs(t, x, 0, api.OK)
	c.Put(0, false, []byte("abc"))
	wantFresh(t, wantTheirs(t, y, 0, api.OK))
}

// plain is a table as the chapter words it.
type plain struct {
	who          int
	may          [2]int
	mine, theirs [2]int
	grants       [2]credit.Grant
}

func newPlain(who int) *plain {
	p := &plain{who: min(max(who, 0), 1)}
	for kind := range 2 {
		p.may[kind] = 6
		p.grants[kind] = credit.Grant{Room: 6, Told: 6}
	}
	return p
}

// of tells what an ID stands for, by its rest by 4; false, if it is none.
func (p *plain) of(id int) (mine bool, kind, n int, ok bool) {
	if id < 0 || id > greatest {
		return false, 0, 0, false
	}
	rest := id % 4
	switch rest {
	case 0, 1:
		kind = 0
	case 2, 3:
		kind = 1
	}
	return rest-2*kind == p.who, kind, (id - rest) / 4, true
}

func (p *plain) open(kind int) (int, api.Errno) {
	switch {
	case kind != 0 && kind != 1:
		return 0, api.ErrArg
	case p.mine[kind] >= p.may[kind]:
		return 0, api.ErrLimit
	}
	p.mine[kind]++
	return 4*(p.mine[kind]-1) + 2*kind + p.who, api.OK
}

func (p *plain) take(id int) api.Errno {
	mine, kind, n, ok := p.of(id)
	switch {
	case !ok:
		return api.ErrArg
	case mine:
		return api.ErrState
	case n >= p.grants[kind].Told:
		return api.ErrLimit
	}
	if p.theirs[kind] < n+1 {
		p.theirs[kind] = n + 1
	}
	return api.OK
}

func (p *plain) has(id int, own bool) bool {
	mine, kind, n, ok := p.of(id)
	if !ok || mine != own {
		return false
	}
	if own {
		return n < p.mine[kind]
	}
	return n < p.theirs[kind]
}

func (p *plain) raise(kind, n int) bool {
	if kind != 0 && kind != 1 || n <= p.may[kind] || n > api.Most {
		return false
	}
	p.may[kind] = n
	return true
}

// list tells them by going through all numbers that may be among them.
func (p *plain) list(own bool) []int {
	var l []int
	for id := range 4 * max(p.mine[0], p.mine[1], p.theirs[0], p.theirs[1]) {
		if p.has(id, own) {
			l = append(l, id)
		}
	}
	return l
}

// twin holds a table against a plain one, and knows each stream that it answered.
type twin struct {
	*testing.T
	x     *table.Table
	p     *plain
	sends map[int]*send.Stream
	recvs map[int]*recv.Stream
}

func newTwin(t *testing.T, who int) *twin {
	return &twin{t, table.New(who), newPlain(who), map[int]*send.Stream{}, map[int]*recv.Stream{}}
}

func (w *twin) same(what string) {
	if a, b := w.x.Sends(), w.p.list(true); !slices.Equal(a, b) {
		w.Fatalf("15.1: behind %s: Sends %v, not %v", what, a, b)
	}
	if a, b := w.x.Recvs(), w.p.list(false); !slices.Equal(a, b) {
		w.Fatalf("15.1: behind %s: Recvs %v, not %v", what, a, b)
	}
	for kind := range 2 {
		if g := w.x.Counts(kind); *g != w.p.grants[kind] {
			w.Fatalf("15.1: behind %s: Counts(%d) %+v, not %+v", what, kind, *g, w.p.grants[kind])
		}
	}
}

func (w *twin) open(kind int) {
	wid, we := w.p.open(kind)
	if id, e := w.x.Open(kind); id != wid || e != we {
		w.Fatalf("15.1: Open(%d): %d, %d, not %d, %d", kind, id, e, wid, we)
	}
	w.same("Open")
}

// marked is a stream that is asked for: a new one is empty, and gets its number's last byte; another one has that.
func (w *twin) marked(id int, s *recv.Stream) {
	if w.recvs[id] == nil {
		wantFresh(w.T, s)
		s.Put(0, false, []byte{byte(id)})
		w.recvs[id] = s
	}
	if w.recvs[id] != s || s.Top() != 1 {
		w.Fatalf("15.1: stream %d is another one: %+v", id, s)
	}
}

func (w *twin) theirs(id int) {
	we := w.p.take(id)
	s, e := w.x.Theirs(id)
	if e != we || (s != nil) != (e == api.OK) {
		w.Fatalf("15.1: Theirs(%d): %p, %d, not %d", id, s, e, we)
	}
	if e == api.OK {
		w.marked(id, s)
	}
	w.same("Theirs")
}

func (w *twin) has(id int) {
	s, ok := w.x.Has(id)
	if ok != w.p.has(id, false) || (s != nil) != ok {
		w.Fatalf("15.1: Has(%d): %p, %v", id, s, ok)
	}
	if ok {
		w.marked(id, s)
	}
	w.same("Has")
}

func (w *twin) mine(id int) {
	s, ok := w.x.Mine(id)
	if ok != w.p.has(id, true) || (s != nil) != ok {
		w.Fatalf("15.1: Mine(%d): %p, %v", id, s, ok)
	}
	if ok && w.sends[id] == nil {
		wantNew(w.T, w.x, id)
		wantGoes(w.T, s, id)
		w.sends[id] = s
	}
	if ok && (w.sends[id] != s || s.Size() != 1) {
		w.Fatalf("15.1: stream %d is another one: %+v", id, s)
	}
	w.same("Mine")
}

func (w *twin) raise(kind, n int) {
	if ok, want := w.x.Raise(kind, n), w.p.raise(kind, n); ok != want {
		w.Fatalf("15.1: Raise(%d, %d): %v", kind, n, ok)
	}
	w.same("Raise")
}

// read is for a stream that was read to its end; it is told at once, or not yet.
func (w *twin) read(kind, n int, tell bool) {
	g := &w.p.grants[kind]
	w.x.Counts(kind).Eat(n)
	g.Read += n
	if tell {
		g.Told = max(g.Told, g.Read+g.Room)
		if n := w.x.Counts(kind).Tell(); n != g.Told {
			w.Fatalf("15.1: Tell: %d, not %d", n, g.Told)
		}
	}
	w.same("Eat")
}

// all asks for each stream once more: those by Mine, and those by Has and Theirs.
func (w *twin) all() {
	for _, id := range w.x.Sends() {
		w.mine(id)
	}
	for _, id := range w.x.Recvs() {
		w.has(id)
		w.theirs(id)
	}
}

// step does one of a few calls, of which each row is tried. There are steps of them.
func (w *twin) step(k int) {
	who := w.p.who
	switch k {
	case 0:
		w.open(0)
	case 1:
		w.open(1)
	case 2:
		w.raise(0, w.p.may[0]+1)
	case 3:
		w.raise(1, w.p.mine[1]+6)
	case 4:
		w.theirs(4*2 + 1 - who)
	case 5:
		w.theirs(1 - who)
	case 6:
		w.theirs(4 + 2 + 1 - who)
	case 7:
		w.theirs(4*6 + 1 - who)
	case 8:
		w.theirs(4*7 + 2 + 1 - who)
	case 9:
		w.read(0, 1, true)
	case 10:
		w.read(1, 2, false)
		w.read(1, 0, w.p.grants[1].Read > 2)
	case 11:
		w.has(4 + 1 - who)
		w.has(4 + 2 + 1 - who)
		w.mine(who)
		w.mine(4 + 2 + who)
	}
}

const steps = 12

// TestRows: 15.1, every row of four calls, of both ends.
func TestRows(t *testing.T) {
	rows := steps * steps * steps * steps
	for who := range 2 {
		for row := range rows {
			w := newTwin(t, who)
			for k, n := 0, row; k < 4; k, n = k+1, n/steps {
				w.step(n % steps)
			}
			w.all()
		}
	}
}

// number is one that a play asks for: near what is there, what is granted, what was opened; of either end and kind; at times none.
func (w *twin) number(d *dice) int {
	kind := d.below(2)
	n := d.from(w.p.theirs[kind], w.p.grants[kind].Told, w.p.mine[kind], d.below(w.p.grants[kind].Told+3)) + d.below(4) - 2
	if d.below(20) == 0 {
		return d.from(ends()...)
	}
	return 4*n + 2*kind + d.below(2)
}

// call is one of a play.
func (w *twin) call(d *dice) {
	kind := d.from(0, 0, 0, 1, 1, 1, 1, -1, 2, math.MinInt, math.MaxInt)
	switch d.below(9) {
	case 0, 1:
		w.open(kind)
	case 2, 3:
		w.theirs(w.number(d))
	case 4:
		w.has(w.number(d))
	case 5:
		w.mine(w.number(d))
	case 6, 7:
		limit := w.p.may[min(max(kind, 0), 1)]
		w.raise(kind, d.from(limit, limit+1, limit+d.below(4), limit-1, 0, -1, math.MinInt, math.MaxInt))
	case 8:
		w.read(d.below(2), d.below(3), d.below(2) == 0)
	}
}

// TestPlays: 15.1, long plays of all calls, of both ends, held against a plain table.
func TestPlays(t *testing.T) {
	for seed := range 200 {
		d := dice(seed)
		w := newTwin(t, d.from(0, 1, -1, 2))
		for range 300 {
			w.call(&d)
		}
		w.all()
	}
}

// TestSame: R4, the same plays, run many times over, have the same answers.
func TestSame(t *testing.T) {
	play := func(seed int) (said []int) {
		d := dice(seed)
		x := table.New(seed & 1)
		for range 200 {
			kind := d.below(2)
			a, e := x.Open(kind)
			_, f := x.Theirs(d.below(80))
			said = append(said, a, int(e), int(f))
			if x.Raise(d.below(2), d.below(40)) {
				said = append(said, -1)
			}
			x.Counts(kind).Eat(d.below(2))
			said = append(said, x.Counts(kind).Tell())
			said = append(append(said, x.Sends()...), x.Recvs()...)
		}
		return said
	}
	for seed := range 20 {
		first := play(seed)
		for range 20 {
			if !slices.Equal(play(seed), first) {
				t.Fatalf("R4: play %d is another one", seed)
			}
		}
	}
}

// pair are the tables of both ends, the frames that are under way to each, and what each has read.
type pair struct {
	x    [2]*table.Table
	way  [2][]api.Frame
	read [2]map[int][]byte
	over map[int]bool
}

// said is what the stream of that number tells.
func said(id int) []byte {
	return bytes.Repeat([]byte{byte(id), byte(id >> 8), '.'}, 1+id%7)
}

// talk opens as many as may be at that end, of both kinds, and lets go what they tell.
func (p *pair) talk(t *testing.T, who, most int) {
	for kind := range 2 {
		for {
			id, e := p.x[who].Open(kind)
			if e != api.OK {
				break
			}
			if id >= most {
				// No more is told on it, so that the play comes to its end.
				continue
			}
			s, ok := p.x[who].Mine(id)
			if !ok || s.Write(said(id)) != api.OK || s.Finish() != api.OK {
				t.Fatalf("15.1: stream %d was not opened", id)
			}
		}
	}
	for _, id := range p.x[who].Sends() {
		s, _ := p.x[who].Mine(id)
		for f, _, ok := s.Next(12, 99); ok; f, _, ok = s.Next(12, 99) {
			p.way[1-who] = append(p.way[1-who], f)
		}
	}
}

// hear brings all that is under way to that end, in a thrown order, each twice.
func (p *pair) hear(t *testing.T, who int, d *dice) {
	l := slices.Concat(p.way[who], p.way[who])
	p.way[who] = nil
	for k := range l {
		other := d.below(k + 1)
		l[k], l[other] = l[other], l[k]
	}
	for _, f := range l {
		s, e := p.x[who].Theirs(f.ID)
		if e != api.OK {
			t.Fatalf("W6: Theirs(%d): %d", f.ID, e)
		}
		if _, e := s.Put(f.Off, f.Fin, f.Data); e != api.OK {
			t.Fatalf("W5: Put to %d: %d", f.ID, e)
		}
		mine, _ := p.x[1-who].Mine(f.ID)
		mine.Acked(f)
	}
}

// take reads what came to that end; each stream that is over lets the other end open one more.
func (p *pair) take(t *testing.T, who int) {
	for _, id := range p.x[who].Recvs() {
		s, ok := p.x[who].Has(id)
		if !ok {
			t.Fatalf("15.1: Has(%d): it is none of Recvs", id)
		}
		b, over, _ := s.Take(99)
		p.read[who][id] = append(p.read[who][id], b...)
		if over == recv.Fin && !p.over[id] {
			p.over[id] = true
			p.x[who].Counts(id / 2 % 2).Eat(1)
		}
	}
	for kind := range 2 {
		g := p.x[who].Counts(kind)
		if _, due := g.Due(); due && !p.x[1-who].Raise(kind, g.Tell()) {
			t.Fatalf("15.1: Raise to %d of kind %d", g.Told, kind)
		}
	}
}

// TestPair: 15.1, W5, W6: what one end opens, the other one takes as Theirs, whatever comes first; what each tells comes to its own number.
func TestPair(t *testing.T) {
	const most = 400
	for seed := range 5 {
		d := dice(seed)
		p := &pair{x: [2]*table.Table{table.New(0), table.New(1)}, read: [2]map[int][]byte{{}, {}}, over: map[int]bool{}}
		for range 40 {
			for who := range 2 {
				p.talk(t, who, most)
				p.hear(t, 1-who, &d)
				p.take(t, 1-who)
			}
		}
		for id := range most {
			reader := 1 - id%2
			if got := p.read[reader][id]; !bytes.Equal(got, said(id)) {
				t.Fatalf("W5: stream %d: %q, not %q", id, got, said(id))
			}
			if s, ok := p.x[id%2].Mine(id); !ok || !s.Done() {
				t.Fatalf("15.1: stream %d is not Done", id)
			}
			if _, ok := p.x[id%2].Has(id); ok {
				t.Fatalf("15.1: stream %d is there where it was opened", id)
			}
			if _, ok := p.x[reader].Mine(id); ok {
				t.Fatalf("15.1: stream %d was opened where it is read", id)
			}
		}
	}
}
