package ledger_test

import (
	"math"
	"math/big"
	"reflect"
	"slices"
	"testing"

	"argosy/api"
	"argosy/ledger"
)

type runs = [][2]int

// packet is one with frames that tell its number, with lists and without.
func packet(num, at int, elicits bool) api.Sent {
	return api.Sent{Num: num, At: at, Elicits: elicits, Frames: []api.Frame{
		{Kind: api.Datagram, Note: -num, Data: []byte{byte(num), byte(num >> 8), 7}},
		{Kind: api.Ack, Spans: [][2]int{{num + 5, num + 9}, {0, num}}},
		{Kind: api.Stream, ID: num, Off: at, A: 3, B: 4, Fin: elicits, Data: []byte{byte(at)}},
	}}
}

// packets are those from from up to, but not, to: each sent at ten times its number, all but each fourth one elicit.
func packets(from, to int) []api.Sent {
	var l []api.Sent
	for n := from; n < to; n++ {
		l = append(l, packet(n, 10*n, n%4 != 3))
	}
	return l
}

// of is a Ledger in which packets(0, n) were put.
func of(n int) *ledger.Ledger {
	var l ledger.Ledger
	l.Put(packets(0, n)...)
	return &l
}

func nums(l []api.Sent) []int {
	var out []int
	for _, s := range l {
		out = append(out, s.Num)
	}
	return out
}

// told is what a Ledger answers to those calls that change nothing.
type told struct {
	next, acked, flight, oldest int
	some                        bool
}

func ask(l *ledger.Ledger) told {
	at, some := l.Oldest()
	return told{l.Next(), l.Acked(), l.Flight(), at, some}
}

// want holds those calls, asked twice, in two orders.
func want(t *testing.T, l *ledger.Ledger, w told) {
	t.Helper()
	if got := ask(l); got != w {
		t.Fatalf("9.1: %+v, not %+v", got, w)
	}
	flight, acked, next := l.Flight(), l.Acked(), l.Next()
	at, some := l.Oldest()
	if got := (told{next, acked, flight, at, some}); got != w {
		t.Fatalf("9.1: asked again: %+v, not %+v", got, w)
	}
}

// wantList holds packets that were told against what they are to be, whole.
func wantList(t *testing.T, what string, got, w []api.Sent) {
	t.Helper()
	if len(got) == 0 && len(w) == 0 {
		return
	}
	if !reflect.DeepEqual(got, w) {
		t.Fatalf("9.1: %s: %v, not %v\n%+v\n%+v", what, nums(got), nums(w), got, w)
	}
}

// wantNums holds packets that were told against those of packets() of these numbers.
func wantNums(t *testing.T, what string, got []api.Sent, w ...int) {
	t.Helper()
	var l []api.Sent
	for _, n := range w {
		l = append(l, packets(n, n+1)...)
	}
	wantList(t, what, got, l)
}

// wantAck is an Ack that is OK and tells these numbers.
func wantAck(t *testing.T, l *ledger.Ledger, r runs, w ...int) {
	t.Helper()
	done, e := l.Ack(r)
	if e != api.OK {
		t.Fatalf("9.1: Ack of %v: %d", r, e)
	}
	wantNums(t, "Ack", done, w...)
}

// wantForm is an Ack that is ErrForm, and changes nothing that is told.
func wantForm(t *testing.T, l *ledger.Ledger, r runs) {
	t.Helper()
	before := ask(l)
	if done, e := l.Ack(r); e != api.ErrForm || done != nil {
		t.Fatalf("9.1: Ack of %v: %v, %d, not ErrForm", r, nums(done), e)
	}
	want(t, l, before)
}

// plain is a Ledger as the chapter words it: all that was ever put is kept.
type plain struct {
	put   []api.Sent
	out   map[int]bool
	acked int
}

func newPlain() *plain {
	return &plain{out: map[int]bool{}, acked: -1}
}

func (p *plain) add(s ...api.Sent) {
	for _, one := range s {
		if one.Num == len(p.put) {
			p.put = append(p.put, one)
			p.out[one.Num] = true
		}
	}
}

// leave tells, rising, all that are out and go.
func (p *plain) leave(goes func(api.Sent) bool) []api.Sent {
	var l []api.Sent
	for _, s := range p.put {
		if p.out[s.Num] && goes(s) {
			l = append(l, s)
			delete(p.out, s.Num)
		}
	}
	return l
}

func (p *plain) ack(s runs) ([]api.Sent, api.Errno) {
	for _, r := range s {
		if r[1] >= len(p.put) {
			return nil, api.ErrForm
		}
	}
	none := func(r [2]int) bool { return r[0] > r[1] || r[0] < 0 }
	for _, r := range s {
		if !none(r) {
			p.acked = max(p.acked, r[1])
		}
	}
	return p.leave(func(one api.Sent) bool {
		return slices.ContainsFunc(s, func(r [2]int) bool { return !none(r) && r[0] <= one.Num && one.Num <= r[1] })
	}), api.OK
}

func (p *plain) lose(now, late int) []api.Sent {
	until := new(big.Int).Sub(big.NewInt(int64(now)), big.NewInt(int64(late)))
	return p.leave(func(one api.Sent) bool {
		old := big.NewInt(int64(one.At)).Cmp(until) <= 0
		return one.Num < p.acked && (one.Num <= p.acked-3 || old)
	})
}

func (p *plain) take() []api.Sent {
	return p.leave(func(api.Sent) bool { return true })
}

func (p *plain) told() told {
	w := told{next: len(p.put), acked: p.acked}
	for _, s := range p.put {
		if p.out[s.Num] && s.Elicits {
			if !w.some {
				w.oldest, w.some = s.At, true
			}
			w.flight++
		}
	}
	return w
}

// pair is a Ledger and a plain one, to which the same is done.
type pair struct {
	t *testing.T
	l ledger.Ledger
	p *plain
}

func newPair(t *testing.T) *pair {
	return &pair{t: t, p: newPlain()}
}

func (b *pair) check() {
	b.t.Helper()
	want(b.t, &b.l, b.p.told())
}

func (b *pair) put(s ...api.Sent) {
	b.t.Helper()
	b.l.Put(s...)
	b.p.add(s...)
	b.check()
}

func (b *pair) ack(r ...[2]int) {
	b.t.Helper()
	kept := slices.Clone(r)
	got, e := b.l.Ack(r)
	w, we := b.p.ack(r)
	if e != we || e != api.OK && got != nil {
		b.t.Fatalf("9.1: Ack of %v: %v, %d, not %d", r, nums(got), e, we)
	}
	wantList(b.t, "Ack", got, w)
	if !slices.Equal(r, kept) {
		b.t.Fatalf("R2: Ack turned the runs %v to %v", kept, r)
	}
	b.check()
}

func (b *pair) lose(now, late int) {
	b.t.Helper()
	wantList(b.t, "Lose", b.l.Lose(now, late), b.p.lose(now, late))
	b.check()
}

func (b *pair) take() {
	b.t.Helper()
	wantList(b.t, "Take", b.l.Take(), b.p.take())
	b.check()
}

// dice is a row of numbers that look thrown, the same at each run.
type dice uint64

func (d *dice) below(n int) int {
	*d = *d*6364136223846793005 + 1442695040888963407
	return int(uint64(*d)>>33) % n
}

// ends are ints at both ends of what there is, and about those that the chapter names.
func ends() []int {
	return []int{math.MinInt, math.MinInt + 1, -api.Most, -1, 0, 1, api.Most, api.Most + 1, math.MaxInt - 1, math.MaxInt}
}

// TestExample: 9.1, the chapter's example.
func TestExample(t *testing.T) {
	l := of(4)
	wantAck(t, l, runs{{3, 3}}, 3)
	wantNums(t, "Lose", l.Lose(0, 1000), 0)
	want(t, l, told{4, 3, 2, 10, true})
}

// TestNothing: 9.1, the zero Ledger: nothing put yet, nothing acknowledged, nothing out.
func TestNothing(t *testing.T) {
	var l ledger.Ledger
	none := told{next: 0, acked: -1}
	want(t, &l, none)
	l.Put()
	l.Put([]api.Sent{}...)
	want(t, &l, none)
	wantNums(t, "Take", l.Take())
	for _, now := range ends() {
		for _, late := range ends() {
			wantNums(t, "Lose", l.Lose(now, late))
		}
	}
	wantAck(t, &l, nil)
	wantAck(t, &l, runs{})
	want(t, &l, none)
	for _, a := range ends() {
		for _, b := range ends() {
			if b >= 0 {
				wantForm(t, &l, runs{{a, b}})
			} else {
				wantAck(t, &l, runs{{a, b}})
			}
			want(t, &l, none)
		}
	}
	want(t, new(ledger.Ledger), none)
}

// TestPutOneByOne: 9.1, packets put one by one: Next, Flight and Oldest behind each.
func TestPutOneByOne(t *testing.T) {
	var l ledger.Ledger
	flight := []int{1, 2, 3, 3, 4, 5, 6, 6, 7}
	for k, one := range packets(0, 9) {
		l.Put(one)
		want(t, &l, told{k + 1, -1, flight[k], 0, true})
	}
	wantNums(t, "Take", l.Take(), 0, 1, 2, 3, 4, 5, 6, 7, 8)
}

// TestPutSeveral: 9.1 and Ways, several at once, named and spread, and one behind another, are as one by one.
func TestPutSeveral(t *testing.T) {
	all := packets(0, 9)
	for from := 0; from <= 9; from++ {
		for to := from; to <= 9; to++ {
			var l ledger.Ledger
			l.Put(all[:from]...)
			l.Put(all[from:to]...)
			l.Put(all[to:]...)
			want(t, &l, told{9, -1, 7, 0, true})
			wantNums(t, "Take", l.Take(), 0, 1, 2, 3, 4, 5, 6, 7, 8)
		}
	}
	var l ledger.Ledger
	l.Put(all[0], all[1], all[2])
	l.Put()
	l.Put(nil...)
	want(t, &l, told{3, -1, 3, 0, true})
}

// TestPutWrong: 9.1, one whose Num is not Next() is not put, alone and among others, which are.
func TestPutWrong(t *testing.T) {
	for put := range 6 {
		for _, num := range append(ends(), 2, 3, 4, 5, 6, 7, -2) {
			if num == put {
				continue
			}
			l, wrong := of(put), packet(num, -1, true)
			before := ask(l)
			l.Put(wrong)
			want(t, l, before)
			l.Put(wrong, wrong)
			want(t, l, before)
			l.Put(packets(put, put+1)...)
			l.Put(packet(num, -1, true))
			if num == put+1 {
				if l.Next() != put+2 {
					t.Fatalf("9.1: Put of %d behind %d: Next %d", num, put, l.Next())
				}
				continue
			}
			w := of(put + 1)
			want(t, l, ask(w))
			wantList(t, "Take", l.Take(), w.Take())
		}
	}
}

// TestPutAmong: 9.1, wrong ones among right ones: each is asked for the Next() of then.
func TestPutAmong(t *testing.T) {
	for row, c := range []struct{ nums, put []int }{
		{[]int{0, 2, 1}, []int{0, 1}},
		{[]int{1, 0, 2}, []int{0}},
		{[]int{0, 0, 1, 1, 2}, []int{0, 1, 2}},
		{[]int{5, 4, 3, 2, 1, 0}, []int{0}},
		{[]int{-1, 0, math.MinInt, 1, math.MaxInt, 2, api.Most + 1, 3, api.Most, 4}, []int{0, 1, 2, 3, 4}},
		{[]int{1, 2, 3}, nil},
		{[]int{0, 1, 3, 4}, []int{0, 1}},
		{[]int{0, 2, 1, 3, 2}, []int{0, 1, 2}},
		{[]int{api.Most + 1, api.Most}, nil},
	} {
		var one, several ledger.Ledger
		var l, w []api.Sent
		for k, n := range c.nums {
			s := packet(n, 100+k, k%2 == 0)
			one.Put(s)
			l = append(l, s)
			if len(w) < len(c.put) && c.put[len(w)] == n {
				w = append(w, s)
			}
		}
		several.Put(l...)
		if one.Next() != len(c.put) || several.Next() != len(c.put) {
			t.Fatalf("9.1: row %d: Next %d, %d, not %d", row, one.Next(), several.Next(), len(c.put))
		}
		want(t, &one, ask(&several))
		wantList(t, "Take, put one by one", one.Take(), w)
		wantList(t, "Take, put at once", several.Take(), w)
	}
}

// TestPutAnything: 9.1, a packet is told as it was put, whatever it holds beside its number.
func TestPutAnything(t *testing.T) {
	l := []api.Sent{
		{},
		{Num: 1, At: math.MinInt, Elicits: true},
		{Num: 2, At: math.MaxInt, Frames: []api.Frame{}},
		{Num: 3, At: -1, Elicits: true, Frames: []api.Frame{{}, {Kind: 99, ID: -1, Off: math.MinInt, A: math.MaxInt, B: -2, Note: 7, Fin: true}}},
		{Num: 4, Frames: []api.Frame{{Data: []byte{}, Spans: [][2]int{}}, {Data: []byte{0}, Spans: [][2]int{{9, -9}}}}},
		packet(5, 3, false),
	}
	for _, how := range []func(*ledger.Ledger) []api.Sent{
		func(g *ledger.Ledger) []api.Sent { return g.Take() },
		func(g *ledger.Ledger) []api.Sent { done, _ := g.Ack(runs{{0, 5}}); return done },
		func(g *ledger.Ledger) []api.Sent {
			done, _ := g.Ack(runs{{5, 5}})
			return append(g.Lose(math.MaxInt, 0), done...)
		},
	} {
		var g ledger.Ledger
		g.Put(l...)
		want(t, &g, told{6, -1, 2, math.MinInt, true})
		got := how(&g)
		if len(got) != 6 {
			t.Fatalf("9.1: told: %v", nums(got))
		}
		for k, s := range got {
			if s.Num != l[k].Num || s.At != l[k].At || s.Elicits != l[k].Elicits || len(s.Frames) != len(l[k].Frames) {
				t.Fatalf("9.1: told: %+v, not %+v", s, l[k])
			}
			for j, f := range s.Frames {
				w := l[k].Frames[j]
				if !slices.Equal(f.Data, w.Data) || !slices.Equal(f.Spans, w.Spans) {
					t.Fatalf("9.1: told: %+v, not %+v", f, w)
				}
				f.Data, f.Spans, w.Data, w.Spans = nil, nil, nil, nil
				if !reflect.DeepEqual(f, w) {
					t.Fatalf("9.1: told: %+v, not %+v", f, w)
				}
			}
		}
	}
}

// TestAckOneByOne: 9.1, runs acknowledged one by one: each tells what is out in it, Acked rises and does not fall.
func TestAckOneByOne(t *testing.T) {
	l := of(10)
	for _, c := range []struct {
		run  [2]int
		nums []int
		told told
	}{
		{[2]int{2, 2}, []int{2}, told{10, 2, 7, 0, true}},
		{[2]int{0, 0}, []int{0}, told{10, 2, 6, 10, true}},
		{[2]int{0, 4}, []int{1, 3, 4}, told{10, 4, 4, 50, true}},
		{[2]int{1, 3}, nil, told{10, 4, 4, 50, true}},
		{[2]int{8, 9}, []int{8, 9}, told{10, 9, 2, 50, true}},
		{[2]int{5, 5}, []int{5}, told{10, 9, 1, 60, true}},
		{[2]int{6, 6}, []int{6}, told{10, 9, 0, 0, false}},
		{[2]int{0, 9}, []int{7}, told{10, 9, 0, 0, false}},
		{[2]int{0, 9}, nil, told{10, 9, 0, 0, false}},
	} {
		wantAck(t, l, runs{c.run}, c.nums...)
		want(t, l, c.told)
	}
}

// TestAckSeveral: 9.1, several runs, that overlap, touch, and are doubled, in whatever order: each packet once, rising.
func TestAckSeveral(t *testing.T) {
	for _, c := range []struct {
		runs  runs
		nums  []int
		acked int
	}{
		{nil, nil, -1},
		{runs{{0, 1}, {3, 4}}, []int{0, 1, 3, 4}, 4},
		{runs{{3, 4}, {0, 1}}, []int{0, 1, 3, 4}, 4},
		{runs{{7, 7}, {5, 5}, {3, 3}, {1, 1}}, []int{1, 3, 5, 7}, 7},
		{runs{{2, 5}, {4, 7}}, []int{2, 3, 4, 5, 6, 7}, 7},
		{runs{{4, 7}, {2, 5}}, []int{2, 3, 4, 5, 6, 7}, 7},
		{runs{{0, 9}, {3, 4}}, []int{0, 1, 2, 3, 4, 5, 6, 7, 8, 9}, 9},
		{runs{{3, 4}, {0, 9}}, []int{0, 1, 2, 3, 4, 5, 6, 7, 8, 9}, 9},
		{runs{{6, 6}, {6, 6}, {6, 6}}, []int{6}, 6},
		{runs{{1, 2}, {3, 4}, {0, 0}}, []int{0, 1, 2, 3, 4}, 4},
		{runs{{8, 8}, {2, 3}, {3, 6}, {0, 2}}, []int{0, 1, 2, 3, 4, 5, 6, 8}, 8},
	} {
		l := of(10)
		wantAck(t, l, c.runs, c.nums...)
		if l.Acked() != c.acked {
			t.Fatalf("9.1: Ack of %v: Acked %d, not %d", c.runs, l.Acked(), c.acked)
		}
		var rest []int
		for n := range 10 {
			if !slices.Contains(c.nums, n) {
				rest = append(rest, n)
			}
		}
		wantNums(t, "Take", l.Take(), rest...)
	}
}

// TestAckEdge: 9.1, a run whose last is just Next() less one is right, one whose last is just Next(), or above, is ErrForm.
func TestAckEdge(t *testing.T) {
	for put := 1; put <= 70; put++ {
		l := of(put)
		wantForm(t, l, runs{{put, put}})
		wantForm(t, l, runs{{0, put}})
		wantForm(t, l, runs{{put + 1, put + 1}})
		wantForm(t, l, runs{{0, math.MaxInt}})
		wantAck(t, l, runs{{put - 1, put - 1}}, put-1)
		if l.Acked() != put-1 {
			t.Fatalf("9.1: Acked %d, not %d", l.Acked(), put-1)
		}
		wantForm(t, l, runs{{put, put}})
	}
}

// TestAckNone: 9.1, a run whose first is above its last, or that is below 0, has none, and counts for nothing.
func TestAckNone(t *testing.T) {
	for _, r := range [][2]int{
		{1, 0}, {5, 4}, {9, 0}, {9, 8}, {10, 9}, {99, 9}, {math.MaxInt, 9}, {math.MaxInt, 0}, {9, -1}, {0, -1}, {0, math.MinInt}, {math.MaxInt, math.MinInt},
		{-1, -1}, {-3, -2}, {-2, -3}, {math.MinInt, -1}, {math.MinInt, math.MinInt}, {-1, math.MinInt},
		{-1, 0}, {-1, 5}, {-1, 9}, {-3, 7}, {math.MinInt, 0}, {math.MinInt, 9},
	} {
		l := of(10)
		before := ask(l)
		wantAck(t, l, runs{r})
		want(t, l, before)
		wantAck(t, l, runs{r, r})
		want(t, l, before)
		wantAck(t, l, runs{r, {2, 3}, r}, 2, 3)
		want(t, l, told{10, 3, 7, 0, true})
		wantAck(t, l, runs{r})
		want(t, l, told{10, 3, 7, 0, true})
		wantNums(t, "Take", l.Take(), 0, 1, 4, 5, 6, 7, 8, 9)
	}
}

// TestAckFormFirst: 9.1, a last that is not below Next() is ErrForm, also of a run that has none.
func TestAckFormFirst(t *testing.T) {
	for _, first := range append(ends(), 8, 9, 10, 11, 12) {
		for _, last := range []int{10, 11, api.Most, api.Most + 1, math.MaxInt} {
			wantForm(t, of(10), runs{{first, last}})
		}
	}
}

// TestAckForm: 9.1, R3, a run beyond Next() among right ones: nothing is changed, what is out stays so.
func TestAckForm(t *testing.T) {
	for _, right := range []runs{{{0, 9}}, {{0, 0}, {9, 9}}, {{2, 5}, {1, 3}, {8, 8}}, {{-1, 9}, {3, 1}}} {
		for place := range len(right) + 1 {
			for _, wrong := range [][2]int{{10, 10}, {0, 10}, {9, 11}, {12, 10}, {-5, 10}, {0, api.Most}, {math.MinInt, math.MaxInt}, {math.MaxInt, math.MaxInt}} {
				l := of(10)
				wantForm(t, l, slices.Insert(slices.Clone(right), place, wrong))
				wantNums(t, "Take", l.Take(), 0, 1, 2, 3, 4, 5, 6, 7, 8, 9)
				l = of(10)
				wantAck(t, l, runs{{3, 4}}, 3, 4)
				wantForm(t, l, slices.Insert(slices.Clone(right), place, wrong))
				wantNums(t, "Lose", l.Lose(0, 1000), 0, 1)
				wantNums(t, "Take", l.Take(), 2, 5, 6, 7, 8, 9)
				wantForm(t, l, slices.Insert(slices.Clone(right), place, wrong))
			}
		}
	}
}

// TestAcked: 9.1, Acked is the greatest last of a run, out or not, and is not raised by a lesser one.
func TestAcked(t *testing.T) {
	l := of(10)
	for _, c := range []struct {
		runs  runs
		acked int
	}{
		{runs{{0, 0}}, 0}, {runs{{2, 3}, {0, 1}}, 3}, {runs{{0, 2}}, 3}, {runs{{3, 3}}, 3}, {nil, 3}, {runs{{-1, 9}, {9, 8}}, 3},
		{runs{{1, 1}, {6, 6}, {4, 5}}, 6}, {runs{{0, 5}}, 6}, {runs{{0, 8}}, 8}, {runs{{9, 9}}, 9}, {runs{{0, 0}}, 9},
	} {
		if _, e := l.Ack(c.runs); e != api.OK || l.Acked() != c.acked {
			t.Fatalf("9.1: Ack of %v: %d, Acked %d, not %d", c.runs, e, l.Acked(), c.acked)
		}
	}
	l = of(10)
	l.Take()
	wantAck(t, l, runs{{2, 6}})
	want(t, l, told{next: 10, acked: 6})
	l.Put(packets(10, 12)...)
	want(t, l, told{12, 6, 1, 100, true})
	wantAck(t, l, runs{{0, 10}}, 10)
	want(t, l, told{next: 12, acked: 10})
}

// TestLoseByNumber: 9.1, at least 3 below Acked() are lost, whenever they were sent; 2 below are not, by number alone.
func TestLoseByNumber(t *testing.T) {
	for put := 1; put <= 12; put++ {
		for acked := range put {
			l := of(put)
			wantAck(t, l, runs{{acked, acked}}, acked)
			var lost, rest []int
			for n := range put {
				switch {
				case n <= acked-3:
					lost = append(lost, n)
				case n != acked:
					rest = append(rest, n)
				}
			}
			wantNums(t, "Lose", l.Lose(-1, 0), lost...)
			wantNums(t, "Lose again", l.Lose(-1, 0))
			wantNums(t, "Take", l.Take(), rest...)
		}
	}
}

// TestLoseByTime: 9.1, sent at just now - late, one after, one before; below Acked() alone.
func TestLoseByTime(t *testing.T) {
	for _, c := range []struct {
		now, late int
		lost      []int
	}{
		{10, 1, nil}, {9, 0, nil}, {10, 0, []int{1}}, {11, 0, []int{1}}, {11, 1, []int{1}}, {12, 1, []int{1}}, {11, 2, nil},
		{19, 0, []int{1}}, {20, 1, []int{1}}, {20, 0, []int{1, 2}}, {25, 5, []int{1, 2}}, {25, 6, []int{1}}, {25, 4, []int{1, 2}},
		{0, -9, nil}, {0, -10, []int{1}}, {0, -20, []int{1, 2}}, {-5, -25, []int{1, 2}}, {-5, -24, []int{1}},
		{30, 0, []int{1, 2}}, {1000, 0, []int{1, 2}}, {1000, 980, []int{1, 2}}, {1000, 981, []int{1}}, {1000, 991, nil},
	} {
		l := of(6)
		wantAck(t, l, runs{{3, 3}, {0, 0}}, 0, 3)
		wantNums(t, "Lose", l.Lose(c.now, c.late), c.lost...)
		// Of 1, 2, 4 and 5, that are out ahead of it, the first ones are lost.
		oldest := []int{10, 20, 40}[len(c.lost)]
		want(t, l, told{6, 3, 4 - len(c.lost), oldest, true})
		wantNums(t, "Lose again", l.Lose(c.now, c.late))
	}
}

// TestLoseBoth: 9.1, by number and by time at once: each is told once, rising.
func TestLoseBoth(t *testing.T) {
	l := of(8)
	wantAck(t, l, runs{{6, 6}}, 6)
	wantNums(t, "Lose", l.Lose(45, 5), 0, 1, 2, 3, 4)
	want(t, l, told{8, 6, 1, 50, true})
	wantNums(t, "Lose", l.Lose(1000, 0), 5)
	wantNums(t, "Lose", l.Lose(1000, 0))
	want(t, l, told{next: 8, acked: 6})
	wantNums(t, "Take", l.Take(), 7)
	// Sent times that do not rise: a later number may be lost ahead of an earlier one.
	var m ledger.Ledger
	m.Put(packet(0, 50, true), packet(1, 10, true), packet(2, 30, true))
	m.Ack(runs{{2, 2}})
	wantList(t, "Lose", m.Lose(40, 20), []api.Sent{packet(1, 10, true)})
	want(t, &m, told{3, 2, 1, 50, true})
	wantList(t, "Lose", m.Lose(50, 0), []api.Sent{packet(0, 50, true)})
}

// TestLoseNone: 9.1, at or above Acked() none is lost, however long ago it was sent; of nothing acknowledged none.
func TestLoseNone(t *testing.T) {
	l := of(10)
	wantNums(t, "Lose", l.Lose(math.MaxInt, 0))
	wantNums(t, "Lose", l.Lose(math.MaxInt, math.MinInt))
	want(t, l, told{10, -1, 8, 0, true})
	wantAck(t, l, runs{{0, 0}}, 0)
	wantNums(t, "Lose", l.Lose(math.MaxInt, 0))
	want(t, l, told{10, 0, 7, 10, true})
	// A packet that is acknowledged is never out: what is just Acked() is out no more in any play.
	wantAck(t, l, runs{{1, 4}}, 1, 2, 3, 4)
	wantNums(t, "Lose", l.Lose(math.MaxInt, math.MinInt))
	wantNums(t, "Take", l.Take(), 5, 6, 7, 8, 9)
	wantNums(t, "Lose", l.Lose(math.MaxInt, math.MinInt))
}

// TestLoseExtremes: 9.1, R1, now and late of any int, sent at any int: reckoned as numbers, without wrap-round.
func TestLoseExtremes(t *testing.T) {
	for _, at := range ends() {
		for _, now := range ends() {
			for _, late := range ends() {
				b := newPair(t)
				b.put(packet(0, at, true), packet(1, at/2, false), packet(2, -at, true), packet(3, 0, true))
				b.ack([2]int{2, 2})
				b.lose(now, late)
				b.ack([2]int{3, 3})
				b.lose(now, late)
				b.take()
			}
		}
	}
	for _, c := range []struct {
		at, now, late int
		lost          bool
	}{
		{math.MinInt, math.MinInt, 1, false},
		{math.MinInt, math.MinInt, math.MaxInt, false},
		{math.MinInt, math.MinInt, 0, true},
		{math.MinInt, -1, math.MaxInt, true},
		{math.MinInt, -2, math.MaxInt, false},
		{math.MinInt, 0, math.MinInt, true},
		{math.MaxInt, 0, math.MinInt, true},
		{math.MaxInt, -1, math.MinInt, true},
		{math.MaxInt, -2, math.MinInt, false},
		{math.MaxInt, math.MaxInt, 0, true},
		{math.MaxInt, math.MaxInt, -1, true},
		{math.MaxInt, math.MaxInt, math.MinInt, true},
		{math.MaxInt, math.MaxInt, 1, false},
		{0, math.MinInt, math.MaxInt, false},
		{0, math.MinInt, math.MinInt, true},
		{1, math.MinInt, math.MinInt, false},
		{0, math.MaxInt, math.MaxInt, true},
		{1, math.MaxInt, math.MaxInt, false},
		{0, math.MaxInt, math.MinInt, true},
	} {
		var l ledger.Ledger
		l.Put(packet(0, c.at, true), packet(1, 0, true))
		l.Ack(runs{{1, 1}})
		if got := l.Lose(c.now, c.late); len(got) == 1 != c.lost {
			t.Fatalf("9.1: sent at %d, Lose(%d, %d): %v", c.at, c.now, c.late, nums(got))
		}
	}
}

// TestTake: 9.1, all that are out, rising, those that do not Elicit among them; Next and Acked stay.
func TestTake(t *testing.T) {
	l := of(9)
	wantAck(t, l, runs{{4, 5}, {1, 1}}, 1, 4, 5)
	wantNums(t, "Take", l.Take(), 0, 2, 3, 6, 7, 8)
	want(t, l, told{next: 9, acked: 5})
	wantNums(t, "Take", l.Take())
	l.Put(packets(9, 12)...)
	want(t, l, told{12, 5, 2, 90, true})
	wantNums(t, "Take", l.Take(), 9, 10, 11)
	want(t, l, told{next: 12, acked: 5})
}

// TestOnce: 9.1, what one call told is out no more: not told again by any other, and not lost, nor acknowledged.
func TestOnce(t *testing.T) {
	all := func(l *ledger.Ledger) []func() []api.Sent {
		return []func() []api.Sent{
			func() []api.Sent { done, _ := l.Ack(runs{{0, 9}}); return done },
			func() []api.Sent { return l.Lose(math.MaxInt, 0) },
			func() []api.Sent { return l.Take() },
		}
	}
	for first := range 3 {
		for second := range 3 {
			l := of(10)
			wantAck(t, l, runs{{9, 9}}, 9)
			wantNums(t, "first", all(l)[first](), 0, 1, 2, 3, 4, 5, 6, 7, 8)
			wantNums(t, "second", all(l)[second]())
			want(t, l, told{next: 10, acked: 9})
			l.Put(packets(10, 14)...)
			wantNums(t, "second", all(l)[second](), [][]int{nil, nil, {10, 11, 12, 13}}[second]...)
		}
	}
}

// TestFlight: 9.1, Flight and Oldest are of those alone that are out and Elicit, the first by number, not by time.
func TestFlight(t *testing.T) {
	var l ledger.Ledger
	l.Put(packet(0, 70, false))
	want(t, &l, told{next: 1, acked: -1})
	l.Put(packet(1, 90, true))
	want(t, &l, told{2, -1, 1, 90, true})
	l.Put(packet(2, 10, false), packet(3, 0, true), packet(4, -8, true))
	want(t, &l, told{5, -1, 3, 90, true})
	l.Ack(runs{{1, 2}})
	want(t, &l, told{5, 2, 2, 0, true})
	l.Ack(runs{{0, 0}})
	want(t, &l, told{5, 2, 2, 0, true})
	l.Ack(runs{{3, 3}})
	want(t, &l, told{5, 3, 1, -8, true})
	l.Ack(runs{{4, 4}})
	want(t, &l, told{next: 5, acked: 4})
	l.Put(packet(5, 1, false), packet(6, 2, false), packet(7, 3, true), packet(8, 4, false), packet(9, 5, true))
	want(t, &l, told{10, 4, 2, 3, true})
	l.Ack(runs{{9, 9}})
	want(t, &l, told{10, 9, 1, 3, true})
	wantList(t, "Lose", l.Lose(0, 100), []api.Sent{packet(5, 1, false), packet(6, 2, false)})
	want(t, &l, told{10, 9, 1, 3, true})
	wantList(t, "Lose", l.Lose(3, 0), []api.Sent{packet(7, 3, true)})
	want(t, &l, told{next: 10, acked: 9})
	wantList(t, "Take", l.Take(), []api.Sent{packet(8, 4, false)})
}

// TestNoneElicits: 9.1, packets that do not Elicit are out all the same: acknowledged, lost, taken.
func TestNoneElicits(t *testing.T) {
	quiet := func() *ledger.Ledger {
		var l ledger.Ledger
		for n := range 6 {
			l.Put(packet(n, n, false))
		}
		want(t, &l, told{next: 6, acked: -1})
		return &l
	}
	l := quiet()
	if done, e := l.Ack(runs{{1, 4}}); e != api.OK || !slices.Equal(nums(done), []int{1, 2, 3, 4}) {
		t.Fatalf("9.1: Ack: %v, %d", nums(done), e)
	}
	if got := l.Lose(0, 9); !slices.Equal(nums(got), []int{0}) {
		t.Fatalf("9.1: Lose: %v", nums(got))
	}
	if got := l.Take(); !slices.Equal(nums(got), []int{5}) {
		t.Fatalf("9.1: Take: %v", nums(got))
	}
	want(t, l, told{next: 6, acked: 4})
	if got := quiet().Take(); !slices.Equal(nums(got), []int{0, 1, 2, 3, 4, 5}) {
		t.Fatalf("9.1: Take: %v", nums(got))
	}
}

// scribble overwrites packets and all that they hold, spare room too.
func scribble(l []api.Sent) {
	l = l[:cap(l)]
	for k := range l {
		frames := l[k].Frames[:cap(l[k].Frames)]
		for j := range frames {
			data := frames[j].Data[:cap(frames[j].Data)]
			for i := range data {
				data[i] = 0xee
			}
			spans := frames[j].Spans[:cap(frames[j].Spans)]
			for i := range spans {
				spans[i] = [2]int{-77, -78}
			}
			frames[j] = api.Frame{Kind: -1, ID: -2, Note: -3}
		}
		l[k] = api.Sent{Num: -9, At: -8, Elicits: true}
	}
}

// roomy is packets with spare room in each of their lists, the room filled.
func roomy(from, to int) []api.Sent {
	l := packets(from, to)
	for k := range l {
		for j := range l[k].Frames {
			f := &l[k].Frames[j]
			f.Data = append(make([]byte, 0, 20), f.Data...)
			f.Spans = append(make([][2]int, 0, 5), f.Spans...)
			if j == 0 {
				f.Spans = nil
			}
		}
		l[k].Frames = append(make([]api.Frame, 0, 7), l[k].Frames...)
	}
	return append(make([]api.Sent, 0, 30), l...)
}

// TestSpreadListIsTheUsers: R2, the list that was spread, and all in it, is not changed, and may be changed behind the call.
func TestSpreadListIsTheUsers(t *testing.T) {
	for _, how := range []string{"Take", "Ack", "Lose"} {
		var l ledger.Ledger
		in, same := roomy(0, 10), roomy(0, 10)
		room := in[:cap(in)]
		room[10] = packet(10, 5, true)
		l.Put(in...)
		if !reflect.DeepEqual(in, same) || !reflect.DeepEqual(room[10], packet(10, 5, true)) || room[11].Frames != nil {
			t.Fatal("R2: Put changed what it was given")
		}
		scribble(in)
		want(t, &l, told{10, -1, 8, 0, true})
		switch how {
		case "Take":
			compare(t, l.Take(), same)
		case "Ack":
			got, _ := l.Ack(runs{{0, 9}})
			compare(t, got, same)
		case "Lose":
			l.Ack(runs{{9, 9}})
			compare(t, l.Lose(1000, 0), same[:9])
		}
	}
}

// compare holds packets against others, a nil list and an empty one being the same.
func compare(t *testing.T, got, w []api.Sent) {
	t.Helper()
	if !slices.Equal(nums(got), nums(w)) {
		t.Fatalf("9.1: told %v, not %v", nums(got), nums(w))
	}
	for k := range got {
		if got[k].At != w[k].At || got[k].Elicits != w[k].Elicits || len(got[k].Frames) != len(w[k].Frames) {
			t.Fatalf("9.1: told %+v, not %+v", got[k], w[k])
		}
		for j, f := range got[k].Frames {
			g := w[k].Frames[j]
			if f.Kind != g.Kind || f.ID != g.ID || f.Off != g.Off || f.A != g.A || f.B != g.B || f.Note != g.Note || f.Fin != g.Fin || !slices.Equal(f.Data, g.Data) || !slices.Equal(f.Spans, g.Spans) {
				t.Fatalf("9.1: told %+v, not %+v", f, g)
			}
		}
	}
}

// TestToldListsAreTheUsers: R2, lists that were told may be changed; the Ledger and other answers stay as they are.
func TestToldListsAreTheUsers(t *testing.T) {
	l := of(20)
	one, _ := l.Ack(runs{{3, 5}, {12, 12}})
	kept, _ := l.Ack(runs{{10, 10}})
	scribble(one)
	wantNums(t, "an earlier answer", kept, 10)
	want(t, l, told{20, 12, 11, 0, true})
	lost := l.Lose(80, 0)
	wantNums(t, "Lose", lost, 0, 1, 2, 6, 7, 8, 9)
	scribble(lost)
	wantNums(t, "an earlier answer", kept, 10)
	want(t, l, told{20, 12, 5, 130, true})
	wantNums(t, "Lose", l.Lose(110, 0), 11)
	l.Put(packets(20, 22)...)
	taken := l.Take()
	wantNums(t, "Take", taken, 13, 14, 15, 16, 17, 18, 19, 20, 21)
	l.Put(packets(22, 25)...)
	scribble(taken)
	wantNums(t, "Take", l.Take(), 22, 23, 24)
	wantNums(t, "an earlier answer", kept, 10)
}

// TestNoTwoShare: R2, no two lists of one answer share memory, also where those that were put did.
func TestNoTwoShare(t *testing.T) {
	data := []byte{1, 2, 3, 4, 5, 6}
	spans := [][2]int{{4, 5}, {1, 2}}
	frames := []api.Frame{{Kind: api.Datagram, Data: data[:3]}, {Kind: api.Ack, Spans: spans}, {Kind: api.Datagram, Data: data[:2]}, {Kind: api.Ack, Spans: spans[:1]}}
	for _, how := range []func(*ledger.Ledger) []api.Sent{
		func(g *ledger.Ledger) []api.Sent { return g.Take() },
		func(g *ledger.Ledger) []api.Sent { done, _ := g.Ack(runs{{0, 2}}); return done },
		func(g *ledger.Ledger) []api.Sent { g.Ack(runs{{3, 3}}); return g.Lose(1000, 0) },
	} {
		var l ledger.Ledger
		l.Put(api.Sent{Num: 0, Frames: frames}, api.Sent{Num: 1, Frames: frames[:3]}, api.Sent{Num: 2, Frames: frames[2:]}, api.Sent{Num: 3, Frames: frames})
		got := how(&l)
		if len(got) < 3 {
			t.Fatalf("9.1: told %v", nums(got))
		}
		for k := range 3 {
			f := got[k].Frames
			for j := range f {
				f[j].Note = 100*k + j
				for i := range f[j].Data[:cap(f[j].Data)] {
					f[j].Data[:cap(f[j].Data)][i] = byte(50*k + j)
				}
				for i := range f[j].Spans[:cap(f[j].Spans)] {
					f[j].Spans[:cap(f[j].Spans)][i] = [2]int{k, j}
				}
			}
			for j := range f[len(f):cap(f)] {
				f[len(f):cap(f)][j].Note = -5
			}
		}
		for k := range 3 {
			for j, f := range got[k].Frames {
				right := f.Note == 100*k+j
				for _, b := range f.Data {
					right = right && b == byte(50*k+j)
				}
				for _, r := range f.Spans {
					right = right && r == [2]int{k, j}
				}
				if !right {
					t.Fatalf("R2: frames of one answer share memory: %+v", got)
				}
			}
		}
		if !slices.Equal(data, []byte{1, 2, 3, 4, 5, 6}) || !slices.Equal(spans, runs{{4, 5}, {1, 2}}) || frames[0].Note != 0 {
			t.Fatal("R2: an answer shares memory with what was put")
		}
	}
}

// TestRunsAreTheUsers: R2, the runs of an Ack, spare room too, are not changed, and not kept.
func TestRunsAreTheUsers(t *testing.T) {
	l := of(10)
	r := append(make(runs, 0, 8), runs{{6, 7}, {1, 2}, {2, 4}, {9, 3}, {-1, 8}}...)
	room := r[:8]
	room[5] = [2]int{8, 8}
	same := slices.Clone(room)
	wantAck(t, l, r, 1, 2, 3, 4, 6, 7)
	if !slices.Equal(room, same) {
		t.Fatalf("R2: Ack changed its runs to %v", room)
	}
	for k := range room {
		room[k] = [2]int{0, 9}
	}
	want(t, l, told{10, 7, 4, 0, true})
	wantForm(t, l, append(r[:2:2], [2]int{0, 10}))
	wantNums(t, "Take", l.Take(), 0, 5, 8, 9)
}

// way has a Ledger within, and a Late of its own beside it.
type way struct {
	ledger.Ledger
	name string
}

func (w *way) Late(now int) []api.Sent { return w.Lose(now, 5) }

// TestEmbedded: Ways, a type that embeds a Ledger has its methods, and its zero value is ready.
func TestEmbedded(t *testing.T) {
	var w way
	w.name = "out"
	w.Put(packets(0, 6)...)
	if done, e := w.Ack(runs{{4, 4}}); e != api.OK || len(done) != 1 || w.Next() != 6 || w.Acked() != 4 || w.Flight() != 4 {
		t.Fatalf("9.1: embedded: %d, %d, %d", w.Next(), w.Acked(), w.Flight())
	}
	wantNums(t, "Late", w.Late(25), 0, 1, 2)
	if at, some := w.Oldest(); at != 50 || !some {
		t.Fatalf("9.1: embedded: Oldest %d, %t", at, some)
	}
	want(t, &w.Ledger, told{6, 4, 1, 50, true})
	wantNums(t, "Take", w.Take(), 3, 5)
}

// TestTwo: R7, two of them know nothing of one another.
func TestTwo(t *testing.T) {
	in := packets(0, 8)
	var a, b ledger.Ledger
	a.Put(in...)
	b.Put(in[:5]...)
	wantAck(t, &a, runs{{7, 7}}, 7)
	want(t, &b, told{5, -1, 4, 0, true})
	taken := b.Take()
	want(t, &a, told{8, 7, 6, 0, true})
	scribble(taken)
	wantNums(t, "Lose", a.Lose(0, 99), 0, 1, 2, 3, 4)
	wantForm(t, &b, runs{{5, 5}})
	want(t, &b, told{next: 5, acked: -1})
}

// TestEveryTwoRuns: 9.1, each two runs of a small Ledger, at once and one behind the other, against the chapter's words.
func TestEveryTwoRuns(t *testing.T) {
	const put = 5
	at := []int{3, 3, 4, 6, 6}
	var l []api.Sent
	for n := range put {
		l = append(l, packet(n, at[n], n != 1 && n != 3))
	}
	side := put + 4
	for k := range side * side * side * side {
		one := [2]int{k%side - 2, k/side%side - 2}
		two := [2]int{k/side/side%side - 2, k/side/side/side - 2}
		b, c := newPair(t), newPair(t)
		b.put(l...)
		b.ack(one, two)
		b.lose(5, 1)
		b.take()
		c.put(l...)
		c.ack(one)
		c.ack(two)
		c.lose(5, 2)
		c.lose(6, 0)
		c.take()
	}
}

// TestEveryPlay: 9.1, every row of five calls of these, against the chapter's words.
func TestEveryPlay(t *testing.T) {
	const kinds = 12
	packet := func(num, at int, elicits bool) api.Sent { return api.Sent{Num: num, At: at, Elicits: elicits} }
	for row := range kinds * kinds * kinds * kinds * kinds {
		b := newPair(t)
		b.put(packet(0, 0, true), packet(1, 1, false), packet(2, 2, true))
		for k, rest := 0, row; k < 5; k, rest = k+1, rest/kinds {
			next := len(b.p.put)
			switch rest % kinds {
			case 0:
				b.put(packet(next, next, true))
			case 1:
				b.put(packet(next, next-1, false), packet(next+1, next, true))
			case 2:
				b.put(packet(next+1, 0, true), packet(next-1, 0, true))
			case 3:
				b.ack([2]int{next - 1, next - 1})
			case 4:
				b.ack([2]int{next - 2, next - 2}, [2]int{0, 0})
			case 5:
				b.ack([2]int{1, 2}, [2]int{2, 3})
			case 6:
				b.ack([2]int{0, 1}, [2]int{next, next})
			case 7:
				b.ack([2]int{next - 1, 0}, [2]int{-1, next - 1})
			case 8:
				b.lose(0, 9)
			case 9:
				b.lose(3, 1)
			case 10:
				b.lose(99, 0)
			case 11:
				b.take()
			}
		}
		b.take()
	}
}

// TestLongPlay: 9.1, long plays of all calls, with wrong arguments among them, against the chapter's words.
func TestLongPlay(t *testing.T) {
	d := dice(9)
	for play := range 60 {
		b, now := newPair(t), 0
		wide := []int{3, 10, 40, 200}[play%4]
		near := func() int { return len(b.p.put) - 1 - d.below(wide) }
		for range 250 {
			now += d.below(3)
			switch d.below(12) {
			case 0, 1, 2, 3:
				var l []api.Sent
				for k := range d.below(4) {
					l = append(l, packet(len(b.p.put)+k, now-d.below(2), d.below(3) > 0))
				}
				if d.below(8) == 0 {
					wrong := append(ends(), len(b.p.put)-1, len(b.p.put)+1)
					l = slices.Insert(l, d.below(len(l)+1), packet(wrong[d.below(len(wrong))], now, true))
				}
				b.put(l...)
			case 4, 5, 6:
				var l runs
				for range d.below(4) {
					first := near()
					l = append(l, [2]int{first, min(first+d.below(5)-1, len(b.p.put)-1)})
				}
				if d.below(12) == 0 {
					e := ends()
					l = slices.Insert(l, d.below(len(l)+1), [2]int{e[d.below(len(e))], e[d.below(len(e))]})
				}
				b.ack(l...)
			case 7:
				b.ack([2]int{near(), len(b.p.put) - d.below(2)})
			case 8, 9:
				b.lose(now, d.below(wide))
			case 10:
				e := ends()
				b.lose(e[d.below(len(e))], d.below(9)-2)
			case 11:
				if d.below(4) == 0 {
					b.take()
				}
			}
		}
		b.take()
	}
}

// TestManyInOrder: R1, R6, very many packets, acknowledged as they come, from behind, by wide runs and in many runs.
func TestManyInOrder(t *testing.T) {
	const many = 1 << 18
	var l ledger.Ledger
	for n := range many {
		l.Put(api.Sent{Num: n, At: n, Elicits: n%2 == 0})
		if n < 1000 {
			continue
		}
		if done, e := l.Ack(runs{{n - 1000, n - 1000}}); e != api.OK || len(done) != 1 || l.Flight() != 500 {
			t.Fatalf("9.1: Ack of %d: %v, %d, Flight %d", n-1000, nums(done), e, l.Flight())
		}
		if at, some := l.Oldest(); !some || at != (n-999+1)/2*2 {
			t.Fatalf("9.1: Oldest, behind %d: %d", n, at)
		}
	}
	if got := l.Take(); len(got) != 1000 || got[0].Num != many-1000 || got[999].Num != many-1 {
		t.Fatalf("9.1: Take: %d", len(got))
	}
	var in []api.Sent
	var each runs
	for n := range many {
		in = append(in, api.Sent{Num: n, At: n, Elicits: true})
		if n%2 == 1 {
			each = append(each, [2]int{n, n}, [2]int{n, n})
		}
	}
	var m ledger.Ledger
	m.Put(in...)
	done, e := m.Ack(each)
	if e != api.OK || len(done) != many/2 || m.Flight() != many/2 || m.Acked() != many-1 {
		t.Fatalf("9.1: Ack of many runs: %d, %d", len(done), e)
	}
	for k, s := range done {
		if s.Num != 2*k+1 {
			t.Fatalf("9.1: Ack of many runs: %d at %d", s.Num, k)
		}
	}
	if got := m.Lose(0, many); len(got) != many/2-1 || got[len(got)-1].Num != many-4 || m.Flight() != 1 {
		t.Fatalf("9.1: Lose of many: %d", len(got))
	}
	if got := m.Take(); len(got) != 1 || got[0].Num != many-2 {
		t.Fatalf("9.1: Take: %v", nums(got))
	}
	var w ledger.Ledger
	w.Put(in...)
	for n := many - 1; n >= 0; n-- {
		if done, e := w.Ack(runs{{n, n}}); e != api.OK || len(done) != 1 || w.Flight() != n || w.Acked() != many-1 {
			t.Fatalf("9.1: Ack of %d, from behind: %v, %d", n, nums(done), e)
		}
	}
	want(t, &w, told{next: many, acked: many - 1})
}
