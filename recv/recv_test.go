package recv_test

import (
	"bytes"
	"math"
	"runtime"
	"slices"
	"strings"
	"testing"

	"argosy/api"
	"argosy/credit"
	"argosy/recv"
	"argosy/send"
	"argosy/spans"
)

// text is n bytes, none of them 0, such that no two stretches of some bytes are the same.
func text(n int) []byte {
	b := make([]byte, n)
	for k := range b {
		b[k] = byte(1 + (k*7+k/251*31+k%11)%255)
	}
	return b
}

// state is all that may be asked of a stream without a change to it.
type state struct {
	top, rest, over int
	ended           bool
	grant           credit.Grant
	runs            [][2]int
}

func stateOf(s *recv.Stream) state {
	return state{s.Top(), s.Rest(), s.Over(), s.Ended(), s.Grant, s.Spans()}
}

func (a state) same(b state) bool {
	return a.top == b.top && a.rest == b.rest && a.over == b.over && a.ended == b.ended && a.grant == b.grant && slices.Equal(a.runs, b.runs)
}

// wantState asks twice, as asking changes nothing.
func wantState(t *testing.T, s *recv.Stream, top, rest, over int, ended bool) {
	t.Helper()
	for range 2 {
		if s.Top() != top || s.Rest() != rest || s.Over() != over || s.Ended() != ended {
			t.Fatalf("14.2: top %d, Rest %d, Over %d, Ended %v, not %d, %d, %d, %v", s.Top(), s.Rest(), s.Over(), s.Ended(), top, rest, over, ended)
		}
	}
}

func wantRuns(t *testing.T, s *recv.Stream, runs ...[2]int) {
	t.Helper()
	if !slices.Equal(s.Spans(), runs) {
		t.Fatalf("14.1: its Set is %v, not %v", s.Spans(), runs)
	}
}

// wantGoes holds what Put or Break answered: how far the top went up, what did not change.
func wantGoes(t *testing.T, what string, s *recv.Stream, ahead state, fresh, wfresh int, e, we api.Errno) {
	t.Helper()
	if fresh != wfresh || e != we {
		t.Fatalf("14.1: %s: %d, %d, not %d, %d", what, fresh, e, wfresh, we)
	}
	if e != api.OK && !stateOf(s).same(ahead) {
		t.Fatalf("14.1: %s: %d, and %+v, not %+v", what, e, stateOf(s), ahead)
	}
	if s.Top() != ahead.top+fresh || s.Rest() != ahead.rest+fresh || s.Grant != ahead.grant {
		t.Fatalf("14.1: %s: fresh %d, and %+v, not %+v", what, fresh, stateOf(s), ahead)
	}
}

func wantPut(t *testing.T, s *recv.Stream, off int, fin bool, b string, fresh int, e api.Errno) {
	t.Helper()
	ahead := stateOf(s)
	n, err := s.Put(off, fin, []byte(b))
	wantGoes(t, "Put", s, ahead, n, fresh, err, e)
}

func wantBreak(t *testing.T, s *recv.Stream, code, end, sure int, fresh int, e api.Errno) {
	t.Helper()
	ahead := stateOf(s)
	n, err := s.Break(code, end, sure)
	wantGoes(t, "Break", s, ahead, n, fresh, err, e)
	if !slices.Equal(s.Spans(), ahead.runs) {
		t.Fatalf("14.1: Break: its Set is %v, not %v", s.Spans(), ahead.runs)
	}
}

func wantTake(t *testing.T, s *recv.Stream, most int, b string, over, code int) {
	t.Helper()
	ahead := stateOf(s)
	got, o, c := s.Take(most)
	if string(got) != b || o != over || c != code || s.Over() != over {
		t.Fatalf("14.2: Take(%d): %q, %d, %d, not %q, %d, %d; Over %d", most, got, o, c, b, over, code, s.Over())
	}
	ahead.grant.Read += len(b)
	ahead.rest -= len(b)
	ahead.over = over
	if !stateOf(s).same(ahead) {
		t.Fatalf("14.2: behind Take(%d): %+v, not %+v", most, stateOf(s), ahead)
	}
}

// open is a stream that was told as much as may be.
func open() *recv.Stream {
	s := recv.New(4)
	s.Told = api.Most
	return s
}

// came is a stream to which these bytes came, and of which so many were taken.
func came(t *testing.T, b string, taken int) *recv.Stream {
	t.Helper()
	s := recv.New(4)
	wantPut(t, s, 0, false, b, len(b), api.OK)
	if taken > 0 {
		wantTake(t, s, taken, b[:taken], 0, 0)
	}
	return s
}

// plain is a stream as the chapter words it: it knows of each place which byte came there first.
type plain struct {
	came             map[int]byte
	room, read, told int
	at, end          int
	broken           bool
	code, sure       int
}

func newPlain(room int) *plain {
	return &plain{came: map[int]byte{}, room: room, told: room, end: -1}
}

func (p *plain) top() int {
	if p.end >= 0 {
		return p.end
	}
	top := 0
	for place := range p.came {
		top = max(top, place+1)
	}
	return top
}

// put reckons where the bytes end in a uint, which holds it.
func (p *plain) put(off int, fin bool, b []byte) (int, api.Errno) {
	to := uint(off) + uint(len(b))
	top := p.top()
	switch {
	case off < 0 || to > 1<<62-1:
		return 0, api.ErrArg
	case int(to) > p.told:
		return 0, api.ErrLimit
	case p.end >= 0 && int(to) > p.end,
		fin && p.end >= 0 && int(to) != p.end,
		fin && int(to) < top:
		return 0, api.ErrFinal
	}
	for k, c := range b {
		if _, there := p.came[off+k]; !there {
			p.came[off+k] = c
		}
	}
	if fin {
		p.end = int(to)
	}
	return p.top() - top, api.OK
}

func (p *plain) allCame() bool {
	for place := range p.end {
		if _, there := p.came[place]; !there {
			return false
		}
	}
	return p.end >= 0
}

func (p *plain) breaks(code, end, sure int) (int, api.Errno) {
	top := p.top()
	for _, n := range []int{code, end, sure} {
		if n < 0 || n > 1<<62-1 {
			return 0, api.ErrArg
		}
	}
	switch {
	case sure > end:
		return 0, api.ErrArg
	case end > p.told:
		return 0, api.ErrLimit
	case p.end >= 0 && end != p.end, end < top:
		return 0, api.ErrFinal
	}
	// That all had come ahead of the first one holds for those behind it as well.
	if !p.broken && !p.allCame() {
		p.broken, p.code, p.sure = true, code, sure
	}
	if p.broken && sure < p.sure {
		p.sure = sure
	}
	p.end = end
	return p.top() - top, api.OK
}

func (p *plain) take(most int) ([]byte, int, int) {
	var b []byte
	for len(b) < most && len(b) < 1<<20 && !(p.broken && p.at >= p.sure) {
		c, there := p.came[p.at]
		if !there {
			break
		}
		b = append(b, c)
		p.at++
	}
	p.read += len(b)
	if p.over() == 2 {
		return b, 2, p.code
	}
	return b, p.over(), 0
}

func (p *plain) over() int {
	switch {
	case p.broken && p.at >= p.sure:
		return 2
	case !p.broken && p.end >= 0 && p.at >= p.end:
		return 1
	}
	return 0
}

// has tells whether these are just the places to which bytes came.
func (p *plain) has(s *recv.Stream) bool {
	for place := range p.came {
		if !s.Has(place) {
			return false
		}
	}
	return s.Count() == len(p.came)
}

// twin is a stream and a plain one that are told the same, and must answer the same. Its calls are too many for T.Helper, which takes long.
type twin struct {
	*testing.T
	s     *recv.Stream
	p     *plain
	taken []byte
}

func newTwin(t *testing.T, room int) *twin {
	w := &twin{t, recv.New(4), newPlain(room), nil}
	w.s.Grant = credit.NewGrant(room)
	return w
}

func (w *twin) same(what string) {
	top := w.p.top()
	if w.s.Top() != top || w.s.Rest() != top-w.p.at || w.s.Over() != w.p.over() || w.s.Ended() != (w.p.end >= 0) {
		w.Fatalf("14.2: behind %s: top %d, Rest %d, Over %d, Ended %v, not %d, %+v", what, w.s.Top(), w.s.Rest(), w.s.Over(), w.s.Ended(), top, w.p)
	}
	if g := (credit.Grant{Room: w.p.room, Read: w.p.read, Told: w.p.told}); w.s.Grant != g {
		w.Fatalf("14.2: behind %s: %+v, not %+v", what, w.s.Grant, g)
	}
	if !w.p.has(w.s) {
		w.Fatalf("14.1: behind %s: its Set is %v, not of %v", what, w.s.Spans(), w.p.came)
	}
}

func (w *twin) put(off int, fin bool, b []byte) {
	wn, we := w.p.put(off, fin, b)
	if n, e := w.s.Put(off, fin, b); n != wn || e != we {
		w.Fatalf("14.1: Put(%d, %v) of %d bytes: %d, %d, not %d, %d", off, fin, len(b), n, e, wn, we)
	}
	w.same("Put")
}

func (w *twin) breaks(code, end, sure int) {
	wn, we := w.p.breaks(code, end, sure)
	if n, e := w.s.Break(code, end, sure); n != wn || e != we {
		w.Fatalf("14.1: Break(%d, %d, %d): %d, %d, not %d, %d", code, end, sure, n, e, wn, we)
	}
	w.same("Break")
}

func (w *twin) take(most int) {
	wb, wo, wc := w.p.take(most)
	b, over, code := w.s.Take(most)
	if !bytes.Equal(b, wb) || over != wo || code != wc {
		w.Fatalf("14.2: Take(%d): %q, %d, %d, not %q, %d, %d", most, b, over, code, wb, wo, wc)
	}
	w.taken = append(w.taken, b...)
	w.same("Take")
}

func (w *twin) tell() {
	w.p.told = max(w.p.told, w.p.read+w.p.room)
	if n := w.s.Tell(); n != w.p.told {
		w.Fatalf("14.1: Tell: %d, not %d", n, w.p.told)
	}
	w.same("Tell")
}

// dice is a row of numbers that look thrown, the same at each run.
type dice uint64

func (d *dice) below(n int) int {
	*d = *d*6364136223846793005 + 1442695040888963407
	return int(uint64(*d)>>33) % n
}

func (d *dice) from(l ...int) int { return l[d.below(len(l))] }

// ends are numbers at both ends of an int, and at both ends of what may be.
func ends() []int {
	return []int{math.MinInt, math.MinInt + 1, math.MinInt + 3, math.MinInt / 2, -api.Most - 1, -api.Most, -1 << 32, -401, -1,
		0, 1, 2, 399, 400, 401, 1 << 20, 1<<20 + 1, 1 << 32, api.Most - 1, api.Most, api.Most + 1, math.MaxInt - 3, math.MaxInt - 1, math.MaxInt}
}

// TestExample: 14.2, the chapter's example.
func TestExample(t *testing.T) {
	s := recv.New(4)
	wantPut(t, s, 3, true, "de", 5, api.OK)
	wantPut(t, s, 0, false, "abc", 0, api.OK)
	wantTake(t, s, 9, "abcde", recv.Fin, 0)
}

// TestNew: 14.1, to a new stream nothing came, and StreamRoom bytes are granted; of any number.
func TestNew(t *testing.T) {
	for _, id := range append(ends(), 3, 4, 5, 7) {
		s := recv.New(id)
		if s.Grant != (credit.Grant{Room: 400, Told: 400}) || s.Count() != 0 {
			t.Fatalf("14.1: New(%d): %+v, %v", id, s.Grant, s.Spans())
		}
		wantState(t, s, 0, 0, 0, false)
		wantTake(t, s, 9, "", 0, 0)
		wantPut(t, s, 0, false, "ab", 2, api.OK)
		wantTake(t, s, 9, "ab", 0, 0)
	}
	if recv.Fin != 1 || recv.Broken != 2 {
		t.Fatalf("14: Fin %d, Broken %d", recv.Fin, recv.Broken)
	}
}

// TestPut: 14.1, bytes at 0, behind others, of which some came, behind a gap and over gaps: fresh is how far the top goes up.
func TestPut(t *testing.T) {
	s := recv.New(4)
	for _, c := range []struct {
		off   int
		b     string
		fresh int
		runs  [][2]int
	}{
		{0, "ab", 2, [][2]int{{0, 2}}},
		{2, "c", 1, [][2]int{{0, 3}}},
		{1, "bcd", 1, [][2]int{{0, 4}}},
		{9, "j", 6, [][2]int{{0, 4}, {9, 10}}},
		{6, "g", 0, [][2]int{{0, 4}, {6, 7}, {9, 10}}},
		{3, "defg", 0, [][2]int{{0, 7}, {9, 10}}},
		{12, "mn", 4, [][2]int{{0, 7}, {9, 10}, {12, 14}}},
		{5, "fghijklmno", 1, [][2]int{{0, 15}}},
		{0, "abcdefghijklmno", 0, [][2]int{{0, 15}}},
		{15, "p", 1, [][2]int{{0, 16}}},
	} {
		wantPut(t, s, c.off, false, c.b, c.fresh, api.OK)
		wantRuns(t, s, c.runs...)
		wantState(t, s, s.Top(), s.Top(), 0, false)
	}
	wantTake(t, s, 99, "abcdefghijklmnop", 0, 0)
}

// TestPutNone: 14.1, no bytes come to no place: the top stays, wherever that is; with fin it is the end.
func TestPutNone(t *testing.T) {
	for _, b := range [][]byte{nil, {}, make([]byte, 0, 9)} {
		s := recv.New(4)
		for _, off := range []int{0, 1, 7, 399, 400} {
			if n, e := s.Put(off, false, b); n != 0 || e != api.OK {
				t.Fatalf("14.1: Put of none at %d: %d, %d", off, n, e)
			}
			wantState(t, s, 0, 0, 0, false)
			wantRuns(t, s)
		}
		if n, e := s.Put(0, true, b); n != 0 || e != api.OK {
			t.Fatalf("14.1: Put of none, and fin: %d, %d", n, e)
		}
		wantState(t, s, 0, 0, recv.Fin, true)
		wantTake(t, s, 9, "", recv.Fin, 0)
		wantRuns(t, s)
	}
	s := came(t, "abc", 0)
	for _, off := range []int{0, 2, 3, 4, 400} {
		wantPut(t, s, off, false, "", 0, api.OK)
		wantState(t, s, 3, 3, 0, false)
	}
	wantPut(t, s, 7, true, "", 4, api.OK)
	wantState(t, s, 7, 7, 0, true)
	for _, off := range []int{0, 3, 6, 7} {
		wantPut(t, s, off, false, "", 0, api.OK)
	}
	wantPut(t, s, 8, false, "", 0, api.ErrFinal)
	wantRuns(t, s, [2]int{0, 3})
	wantTake(t, s, 9, "abc", 0, 0)
}

// TestFirstStays: 14.1, of what comes again, with other bytes in it, the bytes that came first stay: taken or not, over gaps as well.
func TestFirstStays(t *testing.T) {
	s := recv.New(4)
	wantPut(t, s, 2, false, "cd", 4, api.OK)
	wantPut(t, s, 2, false, "XY", 0, api.OK)
	wantPut(t, s, 6, false, "g", 3, api.OK)
	wantPut(t, s, 1, false, "bXYefZh", 1, api.OK)
	wantRuns(t, s, [2]int{1, 8})
	wantPut(t, s, 0, false, "aWWWWWWWW", 1, api.OK)
	wantTake(t, s, 3, "abc", 0, 0)
	wantPut(t, s, 0, false, "VVVVVVVVVj", 1, api.OK)
	wantTake(t, s, 5, "defgh", 0, 0)
	wantTake(t, s, 9, "Wj", 0, 0)
	wantPut(t, s, 0, true, "UUUUUUUUUU", 0, api.OK)
	wantTake(t, s, 9, "", recv.Fin, 0)
}

// TestPutArg: 14.1, an off below 0, and what would end above api.Most, where that is granted and where it is not.
func TestPutArg(t *testing.T) {
	for _, told := range []int{0, 400, api.Most, math.MaxInt} {
		for _, fin := range []bool{false, true} {
			s := recv.New(4)
			s.Told = told
			for _, b := range []string{"", "a", "abc"} {
				for _, off := range []int{-1, -2, -3, -400, -api.Most, math.MinInt + 1, math.MinInt} {
					wantPut(t, s, off, fin, b, 0, api.ErrArg)
				}
				for _, off := range []int{api.Most - len(b) + 1, api.Most + 1, 1 << 62, math.MaxInt - 3, math.MaxInt - 1, math.MaxInt} {
					wantPut(t, s, off, fin, b, 0, api.ErrArg)
				}
			}
			wantState(t, s, 0, 0, 0, false)
			wantPut(t, s, 0, false, "", 0, api.OK)
		}
	}
}

// TestPutMost: 14.1, off and the length just api.Most, however far that is from what came.
func TestPutMost(t *testing.T) {
	s := open()
	wantPut(t, s, 0, false, "ab", 2, api.OK)
	wantPut(t, s, api.Most-3, false, "xy", api.Most-3, api.OK)
	wantState(t, s, api.Most-1, api.Most-1, 0, false)
	wantPut(t, s, api.Most, false, "", 0, api.OK)
	wantPut(t, s, api.Most-1, false, "z", 1, api.OK)
	wantPut(t, s, api.Most-1, false, "zz", 0, api.ErrArg)
	wantRuns(t, s, [2]int{0, 2}, [2]int{api.Most - 3, api.Most})
	wantPut(t, s, api.Most-1, true, "", 0, api.ErrFinal)
	wantPut(t, s, api.Most, true, "", 0, api.OK)
	wantState(t, s, api.Most, api.Most, 0, true)
	wantTake(t, s, 9, "ab", 0, 0)
	wantBreak(t, s, 3, api.Most, 2, 0, api.OK)
	wantTake(t, s, 9, "", recv.Broken, 3)
	s = recv.New(4)
	wantPut(t, s, api.Most-3, false, "xyz", 0, api.ErrLimit)
	wantPut(t, s, api.Most, true, "", 0, api.ErrLimit)
	s.Told = api.Most - 1
	wantPut(t, s, api.Most-3, false, "xyz", 0, api.ErrLimit)
	wantPut(t, s, api.Most-3, false, "xy", api.Most-1, api.OK)
}

// TestPutLimit: 14.1, just Told, and one above it, in one piece and in parts, with fin and without.
func TestPutLimit(t *testing.T) {
	b := string(text(402))
	for _, fin := range []bool{false, true} {
		for _, c := range [][2]int{{400, 0}, {399, 1}, {0, 400}, {1, 399}, {200, 200}} {
			off, n := c[0], c[1]
			s := recv.New(4)
			wantPut(t, s, off, fin, b[:n+1], 0, api.ErrLimit)
			wantPut(t, s, off+1, fin, b[:n], 0, api.ErrLimit)
			wantState(t, s, 0, 0, 0, false)
			fresh := 400
			if n == 0 && !fin {
				fresh = 0
			}
			wantPut(t, s, off, fin, b[:n], fresh, api.OK)
			wantPut(t, s, off, fin, b[:n], 0, api.OK)
			wantPut(t, s, off, fin, b[:n+1], 0, api.ErrLimit)
			wantState(t, s, fresh, fresh, 0, fin)
		}
	}
	s := recv.New(4)
	s.Told = -1
	wantPut(t, s, 0, false, "", 0, api.ErrLimit)
	s.Told = 0
	wantPut(t, s, 0, false, "", 0, api.OK)
	wantPut(t, s, 0, false, "a", 0, api.ErrLimit)
}

// TestPutLimitMoves: 14.1, 14.2, Told alone counts: a Take grants nothing by itself, the Tell behind it does, and Told lasts.
func TestPutLimitMoves(t *testing.T) {
	b := string(text(1000))
	s := recv.New(4)
	wantPut(t, s, 0, false, b[:400], 400, api.OK)
	if s.Tell() != 400 {
		t.Fatalf("14.1: %+v", s.Grant)
	}
	wantPut(t, s, 400, false, "x", 0, api.ErrLimit)
	wantTake(t, s, 250, b[:250], 0, 0)
	if n, due := s.Due(); n != 650 || !due {
		t.Fatalf("14.2: Due: %d, %v", n, due)
	}
	wantPut(t, s, 400, false, "x", 0, api.ErrLimit)
	wantPut(t, s, 401, false, "", 0, api.ErrLimit)
	wantPut(t, s, 100, false, b[100:401], 0, api.ErrLimit)
	if s.Tell() != 650 {
		t.Fatalf("14.1: %+v", s.Grant)
	}
	wantPut(t, s, 400, false, b[400:651], 0, api.ErrLimit)
	wantPut(t, s, 651, false, "", 0, api.ErrLimit)
	wantBreak(t, s, 1, 651, 0, 0, api.ErrLimit)
	wantPut(t, s, 400, false, b[400:650], 250, api.OK)
	wantTake(t, s, 1000, b[250:650], 0, 0)
	wantPut(t, s, 650, true, "x", 0, api.ErrLimit)
	s.Tell()
	wantPut(t, s, 651, true, b[651:1000], 350, api.OK)
	wantPut(t, s, 650, false, b[650:651], 0, api.OK)
	wantTake(t, s, 1000, b[650:1000], recv.Fin, 0)
	s.Told = 7
	wantPut(t, s, 8, false, "", 0, api.ErrLimit)
	wantPut(t, s, 3, false, "wxyz", 0, api.OK)
	wantPut(t, s, 3, false, "vwxyz", 0, api.ErrLimit)
	wantState(t, s, 1000, 0, recv.Fin, true)
}

// TestFin: 14.1, fin at the top, above it, below it; told again, at the same end and at another one.
func TestFin(t *testing.T) {
	for _, c := range []struct {
		off   int
		b     string
		fresh int
		e     api.Errno
	}{
		{5, "", 0, api.OK}, {4, "e", 0, api.OK}, {0, "abcde", 0, api.OK}, {2, "XYZ", 0, api.OK},
		{5, "f", 1, api.OK}, {6, "", 1, api.OK}, {7, "h", 3, api.OK}, {400, "", 395, api.OK}, {399, "x", 395, api.OK},
		{4, "", 0, api.ErrFinal}, {0, "", 0, api.ErrFinal}, {3, "d", 0, api.ErrFinal}, {0, "abcd", 0, api.ErrFinal}, {0, "a", 0, api.ErrFinal},
	} {
		s := came(t, "abcde", 1)
		wantPut(t, s, c.off, true, c.b, c.fresh, c.e)
		if c.e != api.OK {
			wantState(t, s, 5, 4, 0, false)
			wantTake(t, s, 9, "bcde", 0, 0)
			continue
		}
		end := c.off + len(c.b)
		wantState(t, s, end, end-1, 0, true)
		for range 2 {
			wantPut(t, s, end, true, "", 0, api.OK)
			wantPut(t, s, c.off, true, c.b, 0, api.OK)
			wantPut(t, s, end-1, true, "", 0, api.ErrFinal)
			wantPut(t, s, 0, true, "", 0, api.ErrFinal)
			if end < 400 {
				wantPut(t, s, end+1, true, "", 0, api.ErrFinal)
				wantPut(t, s, end, true, "!", 0, api.ErrFinal)
			}
			wantState(t, s, end, end-1, 0, true)
		}
	}
}

// TestToTheEnd: 14.1, bytes that go just up to the end, and one beyond, whoever told the end; what is refused is not there.
func TestToTheEnd(t *testing.T) {
	for _, how := range []string{"Put", "Break"} {
		s := came(t, "ab", 0)
		if how == "Put" {
			wantPut(t, s, 6, true, "", 4, api.OK)
		} else {
			wantBreak(t, s, 1, 6, 6, 4, api.OK)
		}
		wantPut(t, s, 6, false, "g", 0, api.ErrFinal)
		wantPut(t, s, 7, false, "", 0, api.ErrFinal)
		wantPut(t, s, 3, false, "XXXX", 0, api.ErrFinal)
		wantPut(t, s, 2, true, "XXXXX", 0, api.ErrFinal)
		wantPut(t, s, 9, false, "j", 0, api.ErrFinal)
		wantRuns(t, s, [2]int{0, 2})
		wantPut(t, s, 4, false, "ef", 0, api.OK)
		wantPut(t, s, 6, false, "", 0, api.OK)
		wantPut(t, s, 3, true, "def", 0, api.OK)
		wantRuns(t, s, [2]int{0, 2}, [2]int{3, 6})
		wantPut(t, s, 0, false, "XXc", 0, api.OK)
		if how == "Put" {
			wantTake(t, s, 9, "abcdef", recv.Fin, 0)
		} else {
			wantTake(t, s, 9, "abcdef", recv.Broken, 1)
		}
	}
}

// TestPutOrder: 14.1, which refusal of a Put comes first: ErrArg, ErrLimit, ErrFinal.
func TestPutOrder(t *testing.T) {
	s := came(t, "abcde", 0)
	wantPut(t, s, 6, true, "", 1, api.OK)
	s.Told = 7
	for _, fin := range []bool{false, true} {
		wantPut(t, s, -1, fin, "abcdefghijk", 0, api.ErrArg)
		wantPut(t, s, -1, fin, "a", 0, api.ErrArg)
		wantPut(t, s, api.Most, fin, "a", 0, api.ErrArg)
		wantPut(t, s, api.Most, fin, "", 0, api.ErrLimit)
		wantPut(t, s, 7, fin, "a", 0, api.ErrLimit)
		wantPut(t, s, 8, fin, "", 0, api.ErrLimit)
		wantPut(t, s, 6, fin, "a", 0, api.ErrFinal)
		wantPut(t, s, 7, fin, "", 0, api.ErrFinal)
	}
	s.Told = 3
	wantPut(t, s, 4, true, "", 0, api.ErrLimit)
	wantPut(t, s, 3, true, "", 0, api.ErrFinal)
	wantPut(t, s, 3, false, "", 0, api.OK)
	wantBreak(t, s, 1, 9, 10, 0, api.ErrArg)
	wantBreak(t, s, -1, 9, 0, 0, api.ErrArg)
	wantBreak(t, s, 1, 5, 0, 0, api.ErrLimit)
	wantBreak(t, s, 1, 6, 0, 0, api.ErrLimit)
	wantBreak(t, s, 1, 3, 4, 0, api.ErrArg)
	wantBreak(t, s, 1, 3, 0, 0, api.ErrFinal)
	wantState(t, s, 6, 6, 0, true)
}

// TestBreakArgs: 14.1, each number of a Break 0, api.Most, one above it and one below 0; a sure of just the end, and one above it.
func TestBreakArgs(t *testing.T) {
	l := append(ends(), 5, 6, 7)
	for _, code := range l {
		for _, end := range l {
			for _, sure := range l {
				s := open()
				if _, e := s.Put(0, false, []byte("ab")); e != api.OK {
					t.Fatalf("14.1: Put: %d", e)
				}
				e, fresh := api.OK, 0
				switch {
				case code < 0 || end < 0 || sure < 0 || code > 1<<62-1 || end > 1<<62-1 || sure > 1<<62-1 || sure > end:
					e = api.ErrArg
				case end < 2:
					e = api.ErrFinal
				default:
					fresh = end - 2
				}
				wantBreak(t, s, code, end, sure, fresh, e)
				switch {
				case e != api.OK:
					wantTake(t, s, 9, "ab", 0, 0)
				case sure <= 2:
					wantTake(t, s, 9, "ab"[:sure], recv.Broken, code)
				default:
					wantTake(t, s, 9, "ab", 0, 0)
				}
			}
		}
	}
}

// TestBreakEnd: 14.1, an end of just Told, and one above it; one at the top, and below it; the known one, and another.
func TestBreakEnd(t *testing.T) {
	for _, c := range []struct {
		end   int
		fresh int
		e     api.Errno
	}{{400, 395, api.OK}, {401, 0, api.ErrLimit}, {api.Most, 0, api.ErrLimit}, {5, 0, api.OK}, {6, 1, api.OK}, {4, 0, api.ErrFinal}, {0, 0, api.ErrFinal}} {
		for taken := range 6 {
			s := came(t, "abcde", taken)
			wantBreak(t, s, 1, c.end, 0, c.fresh, c.e)
			if c.e != api.OK {
				wantState(t, s, 5, 5-taken, 0, false)
			} else {
				wantState(t, s, c.end, c.end-taken, recv.Broken, true)
			}
		}
	}
	// Behind a gap the top is where the last byte came to.
	s := recv.New(4)
	wantPut(t, s, 7, false, "h", 8, api.OK)
	wantBreak(t, s, 1, 7, 7, 0, api.ErrFinal)
	wantBreak(t, s, 1, 8, 8, 0, api.OK)
	for _, how := range []string{"Put", "Break"} {
		s := came(t, "abc", 0)
		if how == "Put" {
			wantPut(t, s, 5, true, "", 2, api.OK)
		} else {
			wantBreak(t, s, 2, 5, 4, 2, api.OK)
		}
		for range 2 {
			for _, end := range []int{0, 2, 3, 4, 6, 400} {
				wantBreak(t, s, 3, end, 0, 0, api.ErrFinal)
				wantTake(t, s, 0, "", 0, 0)
			}
			wantBreak(t, s, 3, 5, 4, 0, api.OK)
		}
		wantPut(t, s, 3, false, "d", 0, api.OK)
		wantTake(t, s, 9, "abcd", recv.Broken, map[string]int{"Put": 3, "Break": 2}[how])
	}
}

// TestBreakWhen: 14.1, it is broken unless all bytes up to the end, which was known, had come ahead of it.
func TestBreakWhen(t *testing.T) {
	for k, c := range []struct {
		puts   func(s *recv.Stream)
		broken bool
		first  string
	}{
		{func(s *recv.Stream) {}, true, ""},
		{func(s *recv.Stream) { s.Put(0, false, []byte("ab")) }, true, "ab"},
		{func(s *recv.Stream) { s.Put(1, false, []byte("bcd")) }, true, ""},
		{func(s *recv.Stream) { s.Put(1, true, []byte("bcd")) }, true, ""},
		{func(s *recv.Stream) { s.Put(4, true, nil) }, true, ""},
		{func(s *recv.Stream) { s.Put(0, false, []byte("ab")); s.Put(3, true, []byte("d")) }, true, "ab"},
		{func(s *recv.Stream) { s.Put(0, false, []byte("abc")); s.Put(4, true, nil) }, true, "abc"},
		{func(s *recv.Stream) { s.Put(0, false, []byte("abcd")) }, true, "abcd"},
		{func(s *recv.Stream) { s.Put(0, false, []byte("abcd")); s.Take(9) }, true, ""},
		{func(s *recv.Stream) { s.Put(0, true, []byte("abcd")) }, false, "abcd"},
		{func(s *recv.Stream) { s.Put(0, false, []byte("abcd")); s.Put(4, true, nil) }, false, "abcd"},
		{func(s *recv.Stream) { s.Put(2, true, []byte("cd")); s.Put(0, false, []byte("ab")) }, false, "abcd"},
		{func(s *recv.Stream) { s.Put(0, true, []byte("abcd")); s.Take(3) }, false, "d"},
		{func(s *recv.Stream) { s.Put(0, true, []byte("abcd")); s.Take(9) }, false, ""},
	} {
		for _, sure := range []int{4, 0} {
			s := recv.New(4)
			c.puts(s)
			wantBreak(t, s, 5, 4, sure, 4-s.Top(), api.OK)
			wantState(t, s, 4, s.Rest(), s.Over(), true)
			// All comes now, but that is behind the Break; so is one more Break.
			wantPut(t, s, 0, true, "abcd", 0, api.OK)
			wantBreak(t, s, 6, 4, sure, 0, api.OK)
			got, over, code := s.Take(9)
			want, wo, wc := "abcd"[4-s.Rest()-len(got):], recv.Fin, 0
			if c.broken {
				wo, wc = recv.Broken, 5
				if sure == 0 {
					want = ""
				}
			}
			if string(got) != want || over != wo || code != wc {
				t.Fatalf("14.1: Break %d, sure %d: %q, %d, %d, not %q, %d, %d", k, sure, got, over, code, want, wo, wc)
			}
		}
	}
}

// TestBreakNone: 14.1, of a stream without a byte: broken, unless its end was known.
func TestBreakNone(t *testing.T) {
	s := recv.New(4)
	wantBreak(t, s, 0, 0, 0, 0, api.OK)
	wantState(t, s, 0, 0, recv.Broken, true)
	wantTake(t, s, 9, "", recv.Broken, 0)
	s = recv.New(4)
	wantBreak(t, s, api.Most, 0, 0, 0, api.OK)
	wantPut(t, s, 0, true, "", 0, api.OK)
	wantTake(t, s, 9, "", recv.Broken, api.Most)
	s = recv.New(4)
	wantPut(t, s, 0, true, "", 0, api.OK)
	wantBreak(t, s, 5, 0, 0, 0, api.OK)
	wantTake(t, s, 9, "", recv.Fin, 0)
	// One that is refused is none: what comes behind it comes ahead of any Break.
	s = came(t, "abc", 0)
	wantBreak(t, s, 5, 2, 0, 0, api.ErrFinal)
	wantBreak(t, s, 5, 3, 4, 0, api.ErrArg)
	wantBreak(t, s, 5, 401, 0, 0, api.ErrLimit)
	wantPut(t, s, 3, true, "", 0, api.OK)
	wantBreak(t, s, 6, 3, 0, 0, api.OK)
	wantTake(t, s, 9, "abc", recv.Fin, 0)
}

// TestBreakAnew: 14.1, the code is the first one's, sure the least of all.
func TestBreakAnew(t *testing.T) {
	for _, sures := range [][]int{{5}, {5, 5}, {5, 3}, {3, 5}, {5, 4, 3}, {3, 4, 5}, {4, 3, 5}, {6, 3, 3, 4}, {0, 6}, {6, 0}, {6, 6, 6}, {1, 0, 1}} {
		for taken := range 7 {
			s := came(t, "abcdef", taken)
			least := 6
			for k, sure := range sures {
				wantBreak(t, s, 10+k, 6, sure, 0, api.OK)
				// What is refused says nothing of how many are sure.
				wantBreak(t, s, 9, 7, 0, 0, api.ErrFinal)
				wantBreak(t, s, -1, 6, 0, 0, api.ErrArg)
				least = min(least, sure)
				over := 0
				if taken >= least {
					over = recv.Broken
				}
				wantState(t, s, 6, 6-taken, over, true)
			}
			wantTake(t, s, 9, "abcdef"[taken:max(taken, least)], recv.Broken, 10)
			wantTake(t, s, 9, "", recv.Broken, 10)
		}
	}
}

// TestBreakBehindTaken: 14.1, 14.2, a Break anew with a lesser sure, once bytes above that one were taken.
func TestBreakBehindTaken(t *testing.T) {
	s := came(t, "abcdef", 0)
	wantBreak(t, s, 7, 8, 7, 2, api.OK)
	wantTake(t, s, 4, "abcd", 0, 0)
	wantBreak(t, s, 8, 8, 5, 0, api.OK)
	wantState(t, s, 8, 4, 0, true)
	wantBreak(t, s, 8, 8, 2, 0, api.OK)
	wantState(t, s, 8, 4, recv.Broken, true)
	wantTake(t, s, 9, "", recv.Broken, 7)
	wantPut(t, s, 6, true, "gh", 0, api.OK)
	wantBreak(t, s, 8, 8, 8, 0, api.OK)
	wantTake(t, s, 9, "", recv.Broken, 7)
	wantState(t, s, 8, 4, recv.Broken, true)
}

// TestPutBehindBreak: 14.1, bytes come to a broken stream as well, and fin; both change nothing of its being broken.
func TestPutBehindBreak(t *testing.T) {
	s := recv.New(4)
	wantBreak(t, s, 4, 5, 3, 5, api.OK)
	wantPut(t, s, 5, true, "", 0, api.OK)
	wantPut(t, s, 4, true, "", 0, api.ErrFinal)
	wantPut(t, s, 6, true, "", 0, api.ErrFinal)
	wantPut(t, s, 2, true, "cde", 0, api.OK)
	wantRuns(t, s, [2]int{2, 5})
	wantTake(t, s, 9, "", 0, 0)
	wantPut(t, s, 0, false, "a", 0, api.OK)
	wantTake(t, s, 9, "a", 0, 0)
	wantPut(t, s, 0, true, "abXYZ", 0, api.OK)
	wantTake(t, s, 1, "b", 0, 0)
	wantTake(t, s, 9, "c", recv.Broken, 4)
	wantState(t, s, 5, 2, recv.Broken, true)
	wantRuns(t, s, [2]int{0, 5})
}

// TestTakeMost: 14.2, a most of 0 and below, of 1, of just what is there, and of more.
func TestTakeMost(t *testing.T) {
	for most, want := range map[int]string{0: "", -1: "", -400: "", math.MinInt: "", math.MinInt + 1: "", 1: "a", 2: "ab", 4: "abcd", 5: "abcde",
		6: "abcde", 400: "abcde", 1 << 20: "abcde", 1<<20 + 1: "abcde", api.Most: "abcde", math.MaxInt: "abcde"} {
		for _, ended := range []bool{false, true} {
			s := came(t, "abcde", 0)
			over := 0
			if ended {
				wantPut(t, s, 5, true, "", 0, api.OK)
				if want == "abcde" {
					over = recv.Fin
				}
			}
			wantTake(t, s, most, want, over, 0)
			wantTake(t, s, 0, "", over, 0)
			rest := "abcde"[len(want):]
			if ended {
				over = recv.Fin
			}
			wantTake(t, s, 9, rest, over, 0)
			wantTake(t, s, most, "", over, 0)
		}
	}
}

// TestTakeMany: 14.2, a most of 2^20, and above it, where more is there: 2^20 at once.
func TestTakeMany(t *testing.T) {
	const most = 1 << 20
	b := text(2*most + 9)
	for _, n := range []int{most, most + 1, most + 9, api.Most, math.MaxInt} {
		s := open()
		if fresh, e := s.Put(0, true, b); fresh != len(b) || e != api.OK {
			t.Fatalf("14.1: Put of many: %d, %d", fresh, e)
		}
		for at := 0; at < len(b); at += most {
			to, over := min(at+most, len(b)), 0
			if to == len(b) {
				over = recv.Fin
			}
			got, o, code := s.Take(n)
			if !bytes.Equal(got, b[at:to]) || o != over || code != 0 || s.Read != to || s.Rest() != len(b)-to {
				t.Fatalf("14.2: Take(%d) at %d: %d bytes, %d, %d, %+v", n, at, len(got), o, code, s.Grant)
			}
		}
	}
	s := open()
	s.Put(0, true, b)
	if got, over, _ := s.Take(most - 1); len(got) != most-1 || over != 0 {
		t.Fatalf("14.2: Take(%d): %d bytes, %d", most-1, len(got), over)
	}
}

// TestTakeGap: 14.2, as far as they came without a gap; the rest once that is filled.
func TestTakeGap(t *testing.T) {
	s := recv.New(4)
	wantPut(t, s, 5, true, "fg", 7, api.OK)
	wantTake(t, s, 9, "", 0, 0)
	wantPut(t, s, 1, false, "bc", 0, api.OK)
	wantTake(t, s, 9, "", 0, 0)
	wantPut(t, s, 0, false, "a", 0, api.OK)
	wantTake(t, s, 2, "ab", 0, 0)
	wantTake(t, s, 9, "c", 0, 0)
	wantTake(t, s, 9, "", 0, 0)
	wantState(t, s, 7, 4, 0, true)
	wantPut(t, s, 4, false, "e", 0, api.OK)
	wantTake(t, s, 9, "", 0, 0)
	wantPut(t, s, 3, false, "d", 0, api.OK)
	wantTake(t, s, 3, "def", 0, 0)
	wantTake(t, s, 1, "g", recv.Fin, 0)
	wantTake(t, s, 1, "", recv.Fin, 0)
}

// TestTakeBroken: 14.2, of a broken one not beyond the greater of sure and what was taken, with a gap ahead of sure, at it and behind it.
func TestTakeBroken(t *testing.T) {
	const all = "abcdefgh"
	for sure := range 9 {
		for taken := range 9 {
			for gap := taken; gap <= 8; gap++ {
				s := recv.New(4)
				wantPut(t, s, 0, false, all[:gap], gap, api.OK)
				wantTake(t, s, taken, all[:taken], 0, 0)
				if gap < 7 {
					wantPut(t, s, gap+1, false, all[gap+1:], 8-gap, api.OK)
				}
				wantBreak(t, s, 3, 9, sure, 9-s.Top(), api.OK)
				to, over, code := max(taken, min(sure, gap)), 0, 0
				if to >= sure {
					over, code = recv.Broken, 3
				}
				wantTake(t, s, 99, all[taken:to], over, code)
				wantTake(t, s, 99, "", over, code)
				wantPut(t, s, 0, false, all, 0, api.OK)
				wantTake(t, s, 99, all[to:max(to, sure)], recv.Broken, 3)
				wantState(t, s, 9, 9-max(taken, sure), recv.Broken, true)
			}
		}
	}
}

// TestTakeBrokenBits: 14.2, it is told Broken behind as many as are sure alone, in bits of any size.
func TestTakeBrokenBits(t *testing.T) {
	for most := 1; most < 9; most++ {
		s := came(t, "abcdefgh", 1)
		wantBreak(t, s, 6, 8, 6, 0, api.OK)
		for at := 1; at < 6; {
			to, over, code := min(at+most, 6), 0, 0
			if to == 6 {
				over, code = recv.Broken, 6
			}
			wantTake(t, s, 0, "", 0, 0)
			wantTake(t, s, most, "abcdefgh"[at:to], over, code)
			at = to
		}
		wantTake(t, s, most, "", recv.Broken, 6)
		wantTake(t, s, 0, "", recv.Broken, 6)
		wantTake(t, s, -1, "", recv.Broken, 6)
	}
}

// TestOver: 14.2, Fin ahead of the last byte's being taken, behind it, and behind that: fin may come last of all as well.
func TestOver(t *testing.T) {
	s := recv.New(4)
	wantPut(t, s, 0, true, "ab", 2, api.OK)
	wantState(t, s, 2, 2, 0, true)
	wantTake(t, s, 1, "a", 0, 0)
	wantState(t, s, 2, 1, 0, true)
	wantTake(t, s, 1, "b", recv.Fin, 0)
	wantState(t, s, 2, 0, recv.Fin, true)
	wantTake(t, s, 1, "", recv.Fin, 0)
	wantPut(t, s, 0, true, "ab", 0, api.OK)
	wantTake(t, s, 9, "", recv.Fin, 0)
	s = came(t, "ab", 2)
	wantState(t, s, 2, 0, 0, false)
	wantTake(t, s, 9, "", 0, 0)
	wantPut(t, s, 2, true, "", 0, api.OK)
	wantState(t, s, 2, 0, recv.Fin, true)
	wantTake(t, s, 9, "", recv.Fin, 0)
	s = came(t, "ab", 2)
	wantPut(t, s, 3, true, "", 1, api.OK)
	wantState(t, s, 3, 1, 0, true)
	wantTake(t, s, 9, "", 0, 0)
	wantPut(t, s, 2, false, "c", 0, api.OK)
	wantState(t, s, 3, 1, 0, true)
	wantTake(t, s, 9, "c", recv.Fin, 0)
}

// TestEaten: 14.2, what a Take answers is Eaten, by the Grant's Read and Due; what came, and was not taken, is not.
func TestEaten(t *testing.T) {
	b := string(text(400))
	s := recv.New(4)
	wantPut(t, s, 0, true, b, 400, api.OK)
	if n, due := s.Due(); n != 400 || due || s.Read != 0 {
		t.Fatalf("14.2: Due: %d, %v", n, due)
	}
	for _, c := range []struct {
		most, read int
		due        bool
	}{{1, 1, false}, {0, 1, false}, {-7, 1, false}, {198, 199, false}, {1, 200, true}, {199, 399, true}, {9, 400, true}, {9, 400, true}} {
		s.Take(c.most)
		if n, due := s.Due(); s.Read != c.read || n != c.read+400 || due != c.due || s.Told != 400 || s.Rest() != 400-c.read {
			t.Fatalf("14.2: behind Take(%d): %+v, Due: %d, %v, not of %d", c.most, s.Grant, n, due, c.read)
		}
	}
	// What is not taken of a broken one is not Eaten.
	s = came(t, "abcdef", 2)
	wantBreak(t, s, 1, 6, 3, 0, api.OK)
	wantTake(t, s, 9, "c", recv.Broken, 1)
	if s.Read != 3 || s.Rest() != 3 {
		t.Fatalf("14.2: %+v, Rest %d", s.Grant, s.Rest())
	}
	// What a user Eats is not taken.
	s.Eat(5)
	wantState(t, s, 6, 3, recv.Broken, true)
	s = came(t, "abcdef", 2)
	s.Eat(10)
	wantTake(t, s, 2, "cd", 0, 0)
	if s.Read != 14 {
		t.Fatalf("14.2: %+v", s.Grant)
	}
}

// TestTop: 14.1, 14.2, the top and Rest, with the end known ahead of its bytes.
func TestTop(t *testing.T) {
	s := recv.New(4)
	wantPut(t, s, 3, false, "d", 4, api.OK)
	wantState(t, s, 4, 4, 0, false)
	wantPut(t, s, 9, true, "", 5, api.OK)
	wantState(t, s, 9, 9, 0, true)
	wantPut(t, s, 0, false, "abc", 0, api.OK)
	wantTake(t, s, 3, "abc", 0, 0)
	wantState(t, s, 9, 6, 0, true)
	wantPut(t, s, 7, false, "hi", 0, api.OK)
	wantState(t, s, 9, 6, 0, true)
	wantTake(t, s, 9, "d", 0, 0)
	wantState(t, s, 9, 5, 0, true)
	wantPut(t, s, 4, false, "efg", 0, api.OK)
	wantState(t, s, 9, 5, 0, true)
	wantTake(t, s, 9, "efghi", recv.Fin, 0)
	wantState(t, s, 9, 0, recv.Fin, true)
}

// TestEnds: R1, R5, 14.1, both ends of an int in each argument, and of Told.
func TestEnds(t *testing.T) {
	l := ends()
	for _, told := range l {
		for _, a := range l {
			for _, b := range l {
				w := newTwin(t, 400)
				w.s.Told, w.p.told = told, told
				w.put(0, false, []byte("ab"))
				w.take(1)
				w.put(a, b%2 == 0, []byte("xyz"))
				w.put(a, false, nil)
				w.breaks(a, b, 0)
				w.breaks(1, a, b)
				w.take(b)
				w.put(b, a%2 == 0, nil)
			}
		}
	}
}

// TestPutIsCopied: R2, a list that is changed behind Put changes nothing; Put changes neither it nor its spare room.
func TestPutIsCopied(t *testing.T) {
	for _, off := range []int{0, 3} {
		b := append(make([]byte, 0, 40), "abcdefXXXX"...)
		room := b[:40]
		want := slices.Clone(room)
		s := recv.New(4)
		if _, e := s.Put(off, false, b[:3]); e != api.OK {
			t.Fatalf("14.1: Put: %d", e)
		}
		if _, e := s.Put(off+2, true, b[2:6]); e != api.OK {
			t.Fatalf("14.1: Put: %d", e)
		}
		wantPut(t, s, 0, false, strings.Repeat("z", off), 0, api.OK)
		if !bytes.Equal(room, want) {
			t.Fatalf("R2: Put made %q of %q", room, want)
		}
		clear(room)
		wantTake(t, s, off, strings.Repeat("z", off), 0, 0)
		wantTake(t, s, 99, "abcdef", recv.Fin, 0)
		if slices.ContainsFunc(room, func(c byte) bool { return c != 0 }) {
			t.Fatalf("R2: Take made %q", room)
		}
	}
}

// TestTakenIsNew: R2, a list that Take gave and that is changed then, spare room too, or kept while more is taken.
func TestTakenIsNew(t *testing.T) {
	all := text(300)
	s := open()
	if _, e := s.Put(0, false, all); e != api.OK {
		t.Fatalf("14.1: Put: %d", e)
	}
	var kept [][]byte
	sizes := []int{1, 9, 54, 64, 2, 62, 8, 100}
	at := 0
	for _, n := range sizes {
		b, _, _ := s.Take(n)
		if !bytes.Equal(b, all[at:at+n]) {
			t.Fatalf("14.2: %q, not %q", b, all[at:at+n])
		}
		_ = append(b, '!', '!', '!')
		clear(b[len(b):cap(b)])
		kept = append(kept, b)
		at += n
		wantPut(t, s, 0, false, strings.Repeat("#", 300), 0, api.OK)
	}
	if !bytes.Equal(slices.Concat(kept...), all) {
		t.Fatalf("R2: what was kept is now %q", slices.Concat(kept...))
	}
	for _, b := range kept {
		clear(b)
	}
	wantPut(t, s, 300, true, "abc", 3, api.OK)
	wantTake(t, s, 99, "abc", recv.Fin, 0)
	s = open()
	s.Put(0, false, all)
	a, _, _ := s.Take(10)
	clear(a[:cap(a)])
	b, _, _ := s.Take(10)
	if !bytes.Equal(b, all[10:20]) {
		t.Fatalf("R2: %q, not %q", b, all[10:20])
	}
}

// TestEmbedded: Ways, 14.1, a stream has the fields and methods of its Set and of its Grant.
func TestEmbedded(t *testing.T) {
	s := recv.New(4)
	wantPut(t, s, 2, false, "cd", 4, api.OK)
	var c interface {
		Add(int, int)
		Drop(int, int)
		Has(int) bool
		All(int, int) bool
		Count() int
		First(int) int
		Gaps(int, int) [][2]int
		Spans() [][2]int
	} = s
	if c.Has(1) || !c.Has(2) || !c.Has(3) || c.Has(4) || !c.All(2, 4) || c.All(1, 4) || c.Count() != 2 || c.First(0) != 0 || c.First(2) != 4 {
		t.Fatalf("14.1: its Set: %v", c.Spans())
	}
	if !slices.Equal(c.Gaps(0, 5), [][2]int{{0, 2}, {4, 5}}) || !slices.Equal(c.Spans(), [][2]int{{2, 4}}) {
		t.Fatalf("14.1: its Set: %v, %v", c.Gaps(0, 5), c.Spans())
	}
	set := s.Set
	wantPut(t, s, 0, false, "ab", 0, api.OK)
	if !slices.Equal(set.Spans(), [][2]int{{2, 4}}) || s.Count() != 4 {
		t.Fatalf("3.2: a copy of its Set: %v, and %v", set.Spans(), s.Spans())
	}
	var g interface {
		Eat(int)
		Due() (int, bool)
		Tell() int
	} = s
	wantTake(t, s, 4, "abcd", 0, 0)
	g.Eat(196)
	if n, due := g.Due(); n != 600 || !due || g.Tell() != 600 || s.Told != 600 || s.Grant.Told != 600 || s.Room != 400 || s.Read != 200 {
		t.Fatalf("14.1: its Grant: %d, %v, %+v", n, due, s.Grant)
	}
	var kept *credit.Grant = &s.Grant
	kept.Told = 5
	wantPut(t, s, 4, false, "ef", 0, api.ErrLimit)
	wantPut(t, s, 4, false, "e", 1, api.OK)
	var came *spans.Set = &s.Set
	if !came.All(0, 5) || came.Count() != 5 {
		t.Fatalf("14.1: its Set: %v", came.Spans())
	}
	type whole struct{ *recv.Stream }
	w := whole{s}
	if b, over, code := w.Take(9); string(b) != "e" || over != 0 || code != 0 || w.Top() != 5 || w.Count() != 5 || w.Read != 201 {
		t.Fatalf("14.2: embedded: %q, %d, %d", b, over, code)
	}
}

// TestSetByHand: R1, whatever a user does to the Set, calls end, and Rest is at least 0: what he Adds is there, up to the top, what he Drops is not.
func TestSetByHand(t *testing.T) {
	s := recv.New(4)
	s.Add(0, api.Most)
	wantState(t, s, 0, 0, 0, false)
	wantTake(t, s, 9, "", 0, 0)
	wantPut(t, s, 4, true, "", 4, api.OK)
	wantTake(t, s, 9, "\x00\x00\x00\x00", recv.Fin, 0)
	wantTake(t, s, 9, "", recv.Fin, 0)
	s = recv.New(4)
	wantPut(t, s, 100, true, "abc", 103, api.OK)
	s.Add(0, 101)
	wantTake(t, s, 9999, strings.Repeat("\x00", 100)+"abc", recv.Fin, 0)
	s = came(t, "abcdef", 2)
	s.Drop(0, 4)
	wantTake(t, s, 9, "", 0, 0)
	wantPut(t, s, 0, false, "uvwxyz!", 1, api.OK)
	wantTake(t, s, 9, "wxef!", 0, 0)
	s.Drop(0, api.Most)
	wantState(t, s, 7, 0, 0, false)
	wantPut(t, s, 0, false, "abcdefg", 0, api.OK)
	wantTake(t, s, 9, "", 0, 0)
	wantPut(t, s, 7, true, "h", 1, api.OK)
	wantTake(t, s, 9, "h", recv.Fin, 0)
}

// TestZero: R1, a zero stream has no room: what is above 0 is refused until a user grants it.
func TestZero(t *testing.T) {
	var s recv.Stream
	wantTake(t, &s, 9, "", 0, 0)
	wantPut(t, &s, 0, false, "a", 0, api.ErrLimit)
	wantPut(t, &s, 0, false, "", 0, api.OK)
	s.Told = 9
	wantPut(t, &s, 0, true, "a", 1, api.OK)
	wantTake(t, &s, 9, "a", recv.Fin, 0)
}

// TestApart: R7, two streams know nothing of one another, of the same number too.
func TestApart(t *testing.T) {
	a, b := recv.New(4), recv.New(4)
	wantPut(t, a, 0, false, "abc", 3, api.OK)
	wantPut(t, b, 1, false, "XYZ", 4, api.OK)
	wantBreak(t, b, 7, 4, 4, 0, api.OK)
	wantTake(t, a, 1, "a", 0, 0)
	wantTake(t, b, 9, "", 0, 0)
	wantPut(t, a, 3, true, "", 0, api.OK)
	a.Eat(300)
	a.Tell()
	if b.Grant != (credit.Grant{Room: 400, Told: 400}) {
		t.Fatalf("R7: %+v", b.Grant)
	}
	wantPut(t, b, 0, false, "W", 0, api.OK)
	wantTake(t, b, 9, "WXYZ", recv.Broken, 7)
	wantTake(t, a, 9, "bc", recv.Fin, 0)
	wantRuns(t, a, [2]int{0, 3})
	wantRuns(t, b, [2]int{0, 4})
}

// step does one of a small stream's calls.
func (w *twin) step(kind int) {
	switch kind {
	case 0:
		w.put(0, false, []byte("ab"))
	case 1:
		w.put(1, false, []byte("BCD"))
	case 2:
		w.put(3, true, []byte("d"))
	case 3:
		w.put(2, true, nil)
	case 4:
		w.put(2, false, []byte("cdef"))
	case 5:
		w.breaks(5, 4, 3)
	case 6:
		w.breaks(6, 4, 1)
	case 7:
		w.breaks(7, 2, 0)
	case 8:
		w.breaks(8, 6, 6)
	case 9:
		w.take(1)
	case 10:
		w.take(9)
	case 11:
		w.tell()
	}
}

// TestRows: 14.1, 14.2, every row of five calls of a small stream, and then the rest of it.
func TestRows(t *testing.T) {
	const calls = 12
	rows := calls * calls * calls * calls * calls
	for row := range rows {
		w := newTwin(t, 4)
		for rest := row; rest > 0; rest /= calls {
			w.step(rest % calls)
		}
		w.put(0, false, []byte("pqrs"))
		w.take(2)
		w.take(9)
	}
}

// play does one call of any kind, with arguments about the edges; of a text, or of other bytes than that.
func (w *twin) play(d *dice, all []byte) {
	top, told := w.s.Top(), w.s.Told
	switch kind := d.below(30); {
	case kind < 16:
		off := d.from(0, w.p.at, top, told, d.below(told+3)-1, d.below(told+1), d.below(top+1))
		n := d.from(0, 1, d.below(9), d.below(70), d.below(200), max(told-off, 0), max(told-off+1, 0), max(top-off, 0))
		b := make([]byte, n)
		if off >= 0 && off < len(all) && d.below(8) > 0 {
			copy(b, all[off:])
		}
		w.put(off, d.below(150) == 0, b)
	case kind == 16:
		if d.below(6) == 0 {
			w.put(d.from(top, w.p.end, top+d.below(9)), true, nil)
		}
	case kind == 17:
		if d.below(4) == 0 {
			end := d.from(top, w.p.end, told, told+1, top+d.below(40), top-1)
			w.breaks(d.below(9), end, d.from(0, end, end+1, w.p.sure-1, w.p.at, d.below(max(end, 0)+1)))
		}
	case kind < 27:
		w.take(d.from(-1, 0, 1, 2, d.below(20), d.below(200), w.s.Rest(), 1<<20))
	default:
		w.tell()
	}
}

// TestPlays: 14.1 to 14.3, long plays of every call in any order, and then all that is wanting comes, and is taken.
func TestPlays(t *testing.T) {
	d := dice(14)
	all := text(1 << 16)
	overs := [3]int{}
	for range 1200 {
		w := newTwin(t, d.from(400, 400, 20, 1, 64))
		for range 10 + d.below(120) {
			w.play(&d, all)
		}
		if d.below(2) > 0 {
			w.put(w.s.Top(), true, nil)
		}
		for at := 0; at < w.s.Top(); at += 37 {
			w.put(at, false, all[at:min(at+37, w.s.Top())])
		}
		for w.s.Rest() > 0 && w.s.Over() == 0 {
			rest := w.s.Rest()
			w.take(1 + d.below(150))
			if w.s.Rest() == rest {
				t.Fatalf("14.2: all came, and none is taken: %+v", w.p)
			}
		}
		overs[w.s.Over()]++
	}
	for k, n := range overs {
		if n < 100 {
			t.Fatalf("the plays are over %d times in the way %d: %v", n, k, overs)
		}
	}
}

// TestOnce: 14.3, pieces of one text in any order, whole, overlapping and again, taken in bits of any size: the text, each byte once.
func TestOnce(t *testing.T) {
	d := dice(41)
	for play := range 300 {
		all := text(1 + d.below(900))
		s := open()
		var got []byte
		sum, over, count := 0, 0, 0
		for round := 0; over == 0; round++ {
			if round > 100000 {
				t.Fatalf("14.3: play %d: %d of %d bytes, and no end", play, len(got), len(all))
			}
			off := d.below(len(all) + 1)
			if round%5 == 0 {
				// What is wanting next.
				off = s.First(d.from(0, len(got)))
			}
			to := min(off+d.below(90), len(all))
			// Of what came, other bytes may come: they are not taken.
			b := slices.Clone(all[min(off, len(all)):max(to, min(off, len(all)))])
			for k := range b {
				if s.Has(off+k) && d.below(2) == 0 {
					b[k] = 0
				}
			}
			fresh, e := s.Put(off, off+len(b) == len(all) && d.below(3) == 0, b)
			if e != api.OK || fresh < 0 {
				t.Fatalf("14.1: play %d: Put: %d, %d", play, fresh, e)
			}
			sum += fresh
			var bit []byte
			if d.below(3) == 0 {
				bit, over, _ = s.Take(d.from(1, 3, d.below(100), 9999))
				got = append(got, bit...)
				if over != s.Over() {
					t.Fatalf("14.2: play %d: Take told %d, Over %d", play, over, s.Over())
				}
			}
			count = s.Count()
			if sum != s.Top() || s.Rest() != sum-len(got) || s.Read != len(got) || !bytes.HasPrefix(all, got) || len(got) > count {
				t.Fatalf("14.3: play %d: %d bytes of %d, top %d of %d, Rest %d, %+v", play, len(got), len(all), s.Top(), sum, s.Rest(), s.Grant)
			}
		}
		if over != recv.Fin || !bytes.Equal(got, all) || count != len(all) {
			t.Fatalf("14.3: play %d: over %d: %d of %d bytes", play, over, len(got), len(all))
		}
	}
}

// TestOrders: 14.3, four pieces that overlap, in every order, each of them twice.
func TestOrders(t *testing.T) {
	const all = "abcdefgh"
	pieces := [4][2]int{{0, 3}, {2, 5}, {4, 8}, {1, 6}}
	for row := range 4 * 4 * 4 * 4 * 4 * 4 {
		for most := range 4 {
			s := recv.New(4)
			got := ""
			for k, rest := 0, row; k < 10; k, rest = k+1, rest/4 {
				p := pieces[rest%4]
				if k > 5 {
					p = pieces[k-6]
				}
				if _, e := s.Put(p[0], p[1] == 8, []byte(all[p[0]:p[1]])); e != api.OK {
					t.Fatalf("14.1: Put: %d", e)
				}
				b, _, _ := s.Take(most)
				got += string(b)
			}
			b, over, _ := s.Take(9)
			if got += string(b); got != all || over != recv.Fin {
				t.Fatalf("14.3: row %d: %q, %d", row, got, over)
			}
		}
	}
}

// hears brings a frame of a writing stream to the reading one.
func hears(t *testing.T, s *recv.Stream, f api.Frame) {
	t.Helper()
	e := api.OK
	if f.Kind == api.Reset {
		_, e = s.Break(f.A, f.Off, f.B)
	} else {
		_, e = s.Put(f.Off, f.Fin, f.Data)
	}
	if e != api.OK {
		t.Fatalf("W6: %+v: %d", f, e)
	}
}

// link is a writing stream, a reading one, and what is under way between them.
type link struct {
	w          *send.Stream
	r          *recv.Stream
	d          *dice
	under      []api.Frame
	got        []byte
	over, code int
	least      int
}

// talk has the writing stream tell what it has to.
func (l *link) talk() {
	for range l.d.below(4) {
		if f, _, ok := l.w.Next(l.d.below(140), l.d.below(200)); ok {
			l.under = append(l.under, f)
		}
	}
	if f, ok := l.w.Turn(); ok {
		l.under = append(l.under, f)
		l.least = f.B
	}
}

// carry loses, doubles and swaps what is under way.
func (l *link) carry(t *testing.T) {
	t.Helper()
	for range l.d.below(4) {
		if len(l.under) == 0 {
			return
		}
		k := l.d.below(len(l.under))
		f := l.under[k]
		switch l.d.below(4) {
		case 0:
			l.w.Lost(f)
		case 1:
			hears(t, l.r, f)
			continue
		default:
			hears(t, l.r, f)
			l.w.Acked(f)
		}
		l.under = slices.Delete(l.under, k, k+1)
	}
}

// read takes some, and grants what is due; whoever is told that it is over takes no more.
func (l *link) read() {
	if l.over != 0 {
		return
	}
	var b []byte
	b, l.over, l.code = l.r.Take(l.d.from(0, 1, l.d.below(90), 999))
	l.got = append(l.got, b...)
	if _, due := l.r.Due(); due {
		l.w.Raise(l.r.Tell())
	}
}

// TestNet: W5, W6, 14.3, a writing stream's frames over a net that loses, doubles and swaps: what is taken are the first bytes written,
// Fin behind all of them alone, Broken behind as many as are sure, with the writer's code.
func TestNet(t *testing.T) {
	d := dice(51)
	overs := [3]int{}
	for play := range 600 {
		all := text(d.below(3000))
		l := &link{w: send.New(4), r: recv.New(4), d: &d}
		for round := 0; l.over == 0 || !l.w.Done(); round++ {
			if round > 100000 {
				t.Fatalf("W8: play %d: %d of %d bytes, over %d", play, len(l.got), len(all), l.over)
			}
			if n := l.w.Size(); n < len(all) {
				l.w.Write(all[n:min(n+d.below(300), len(all))])
			} else {
				l.w.Finish()
			}
			if play%2 == 0 && d.below(30) == 0 {
				l.w.Reset(play, d.below(l.w.Size()+1))
			}
			l.talk()
			l.carry(t)
			l.read()
			if !bytes.HasPrefix(all, l.got) {
				t.Fatalf("W5: play %d: %d bytes, that were not written", play, len(l.got))
			}
		}
		switch {
		case l.over == recv.Fin && (len(l.got) != len(all) || l.code != 0),
			l.over == recv.Broken && (len(l.got) < l.least || l.code != play || play%2 != 0):
			t.Fatalf("W5: play %d: over %d, code %d: %d of %d bytes, %d are sure", play, l.over, l.code, len(l.got), len(all), l.least)
		}
		overs[l.over]++
	}
	if overs[recv.Fin] < 100 || overs[recv.Broken] < 100 {
		t.Fatalf("the plays are over in the ways %v", overs)
	}
}

// TestMany: R6, many pieces apart, each of one byte, and the gaps between them filled from behind; and many bytes in bits of one.
func TestMany(t *testing.T) {
	all := text(8192)
	s := open()
	for k := 1; k < len(all); k += 2 {
		s.Put(k, false, all[k:k+1])
	}
	wantState(t, s, len(all), len(all), 0, false)
	for k := len(all) - 2; k >= 0; k -= 2 {
		s.Put(k, false, all[k:k+1])
	}
	wantRuns(t, s, [2]int{0, len(all)})
	for k := range all {
		if b, _, _ := s.Take(1); len(b) != 1 || b[0] != all[k] {
			t.Fatalf("14.3: at %d: %q", k, b)
		}
	}
}

// TestLetGo: what was taken is kept no more: much more goes through a stream than it holds.
func TestLetGo(t *testing.T) {
	held := func() uint64 {
		var m runtime.MemStats
		runtime.GC()
		runtime.ReadMemStats(&m)
		return m.HeapAlloc
	}
	const piece, pieces = 1 << 16, 512
	all := text(piece)
	s := recv.New(4)
	s.Grant = credit.NewGrant(piece)
	ahead := held()
	for k := range pieces {
		if fresh, e := s.Put(k*piece, false, all); fresh != piece || e != api.OK {
			t.Fatalf("14.1: Put %d: %d, %d", k, fresh, e)
		}
		// Once more, when it was taken in part, when it was taken whole, and when a user let it go.
		for _, n := range []int{1000, piece} {
			s.Take(n)
			s.Put(k*piece, false, all)
		}
		s.Drop(k*piece, k*piece+piece)
		s.Put(k*piece, false, all)
		s.Tell()
	}
	if now := held(); now > ahead+piece*pieces/4 {
		t.Fatalf("%d bytes were taken, and %d more are held", s.Read, now-ahead)
	}
	wantState(t, s, piece*pieces, 0, 0, false)
}

// TestSame: R4, the same calls are answered the same, and asking changes nothing.
func TestSame(t *testing.T) {
	var taken [2][]byte
	for k := range taken {
		d := dice(77)
		all := text(9999)
		for range 40 {
			w := newTwin(t, 400)
			for range 60 {
				w.play(&d, all)
				if k == 1 {
					stateOf(w.s)
					w.s.Due()
					w.s.Gaps(0, 999)
				}
			}
			taken[k] = append(taken[k], w.taken...)
		}
	}
	if !bytes.Equal(taken[0], taken[1]) || len(taken[0]) == 0 {
		t.Fatalf("R4: %d bytes, and %d", len(taken[0]), len(taken[1]))
	}
}
