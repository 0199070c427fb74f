package path_test

import (
	"bytes"
	"math"
	"math/big"
	"slices"
	"testing"

	"argosy/api"
	"argosy/cong"
	"argosy/ledger"
	"argosy/path"
	"argosy/rtt"
)

type runs = [][2]int

var (
	ping     = api.Frame{Kind: api.Ping}
	ackAlone = api.Frame{Kind: api.Ack, Spans: [][2]int{{3, 5}, {0, 1}}}
	closing  = api.Frame{Kind: api.Close, A: 7}
)

func got(id int) api.Frame { return api.Frame{Kind: api.Got, ID: id} }

// whole are frames that carry something in every field, told apart by n.
func whole(n int) []api.Frame {
	return []api.Frame{
		{Kind: api.Stream, ID: 4 * n, Off: n + 1, Fin: n%2 == 0, Data: []byte{byte(n), byte(n >> 8), 9}},
		{Kind: api.Ack, Spans: [][2]int{{n + 5, n + 9}, {0, n}}},
		{Kind: api.Datagram, Note: -n, Data: []byte{7, byte(n)}},
		{Kind: api.Reset, ID: n, A: 3, Off: n + 8, B: n + 2, Note: n + 1000},
	}
}

func sameFrame(a, b api.Frame) bool {
	return a.Kind == b.Kind && a.ID == b.ID && a.Off == b.Off && a.A == b.A && a.B == b.B && a.Note == b.Note && a.Fin == b.Fin &&
		bytes.Equal(a.Data, b.Data) && slices.Equal(a.Spans, b.Spans)
}

func wantFrames(t *testing.T, what string, f []api.Frame, w ...api.Frame) {
	t.Helper()
	if !slices.EqualFunc(f, w, sameFrame) {
		t.Fatalf("11.1: %s: %+v, not %+v", what, f, w)
	}
}

// wantHeard is a Heard that is OK and tells these frames.
func wantHeard(t *testing.T, p *path.Path, s runs, now int, w ...api.Frame) {
	t.Helper()
	f, e := p.Heard(s, now)
	if e != api.OK {
		t.Fatalf("11.1: Heard of %v: %d", s, e)
	}
	wantFrames(t, "Heard", f, w...)
}

func wantLate(t *testing.T, p *path.Path, now int, w ...api.Frame) {
	t.Helper()
	wantFrames(t, "Late", p.Late(now), w...)
}

// wantProbe is a Probe that is true and tells these frames.
func wantProbe(t *testing.T, p *path.Path, now int, w ...api.Frame) {
	t.Helper()
	f, ok := p.Probe(now)
	if !ok {
		t.Fatalf("11.1: Probe at %d: false", now)
	}
	wantFrames(t, "Probe", f, w...)
}

// wantNoProbe is a Probe that is false and changes nothing.
func wantNoProbe(t *testing.T, p *path.Path, now int) {
	t.Helper()
	before := ask(p)
	if f, ok := p.Probe(now); ok || len(f) != 0 {
		t.Fatalf("11.1: Probe at %d: %+v, %t", now, f, ok)
	}
	want(t, p, before)
}

// wantForm is a Heard that is ErrForm, tells nothing and changes nothing.
func wantForm(t *testing.T, p *path.Path, s runs, now int) {
	t.Helper()
	before := ask(p)
	if f, e := p.Heard(s, now); e != api.ErrForm || len(f) != 0 {
		t.Fatalf("11.1: Heard of %v: %+v, %d, not ErrForm", s, f, e)
	}
	want(t, p, before)
}

// told is all that a Path answers to those calls that change nothing.
type told struct {
	rtt                         rtt.Rtt
	window                      cong.Window
	next, acked, flight, oldest int
	some, open                  bool
}

func ask(p *path.Path) told {
	at, some := p.Oldest()
	return told{p.Rtt, p.Window, p.Next(), p.Acked(), p.Flight(), at, some, p.Open()}
}

// want holds those calls; twice, as asking changes nothing.
func want(t *testing.T, p *path.Path, w told) {
	t.Helper()
	for range 2 {
		if have := ask(p); have != w {
			t.Fatalf("11.1: %+v, not %+v", have, w)
		}
	}
}

func window(size, slow, part, till int) cong.Window {
	return cong.Window{Size: size, Slow: slow, Part: part, Till: till}
}

// smooth is a Rtt that was told this first sample.
func smooth(x int) rtt.Rtt {
	return rtt.Rtt{Smooth: 8 * x, Var: 2 * x, Some: true}
}

// plain is a Path as the chapter words it: all that was ever sent is kept, times are numbers of any length.
type plain struct {
	rtt    rtt.Rtt
	window cong.Window
	put    []api.Sent
	out    map[int]bool
	acked  int
}

func newPlain() *plain {
	return &plain{window: window(4, 32, 0, 0), out: map[int]bool{}, acked: -1}
}

func (p *plain) send(now int, f ...api.Frame) int {
	elicits := false
	for _, one := range f {
		if one.Kind != api.Ack && one.Kind != api.Close {
			elicits = true
		}
	}
	num := len(p.put)
	p.put = append(p.put, api.Sent{Num: num, At: now, Elicits: elicits, Frames: f})
	p.out[num] = true
	return num
}

// leave tells, rising, all that are out and go.
func (p *plain) leave(goes func(api.Sent) bool) (l []api.Sent, elicit int, f []api.Frame) {
	for _, s := range p.put {
		if p.out[s.Num] && goes(s) {
			delete(p.out, s.Num)
			l = append(l, s)
			f = append(f, s.Frames...)
			if s.Elicits {
				elicit++
			}
		}
	}
	return l, elicit, f
}

func (p *plain) heard(s runs, now int) ([]api.Frame, api.Errno) {
	for _, r := range s {
		if r[1] >= len(p.put) {
			return nil, api.ErrForm
		}
	}
	in := map[int]bool{}
	for _, r := range s {
		if r[0] >= 0 && r[0] <= r[1] {
			p.acked = max(p.acked, r[1])
			for n := r[0]; n <= r[1]; n++ {
				in[n] = true
			}
		}
	}
	l, elicit, f := p.leave(func(one api.Sent) bool { return in[one.Num] })
	for range elicit {
		p.window.Good(1)
	}
	if elicit > 0 && l[len(l)-1].Num == p.acked {
		x := new(big.Int).Sub(big.NewInt(int64(now)), big.NewInt(int64(l[len(l)-1].At)))
		switch {
		case x.Cmp(big.NewInt(1)) < 0:
			p.rtt.Sample(1)
		case x.Cmp(big.NewInt(1000)) > 0:
			p.rtt.Sample(1000)
		default:
			p.rtt.Sample(int(x.Int64()))
		}
	}
	return f, api.OK
}

// old tells whether at is now - far or before.
func old(at, now, far int) bool {
	return big.NewInt(int64(at)).Cmp(new(big.Int).Sub(big.NewInt(int64(now)), big.NewInt(int64(far)))) <= 0
}

func (p *plain) late(now int) []api.Frame {
	far := p.rtt.Late()
	l, elicit, f := p.leave(func(one api.Sent) bool {
		return one.Num < p.acked && (p.acked-one.Num >= 3 || old(one.At, now, far))
	})
	if elicit > 0 {
		p.window.Bad(l[len(l)-1].Num, len(p.put))
	}
	return f
}

func (p *plain) probe(now int) ([]api.Frame, bool) {
	at, some := p.oldest()
	if !some || !old(at, now, p.rtt.Wait()) {
		return nil, false
	}
	p.rtt.Back++
	_, _, f := p.leave(func(api.Sent) bool { return true })
	return f, true
}

func (p *plain) oldest() (int, bool) {
	for _, s := range p.put {
		if p.out[s.Num] && s.Elicits {
			return s.At, true
		}
	}
	return 0, false
}

func (p *plain) told() told {
	w := told{rtt: p.rtt, window: p.window, next: len(p.put), acked: p.acked}
	w.oldest, w.some = p.oldest()
	for _, s := range p.put {
		if p.out[s.Num] && s.Elicits {
			w.flight++
		}
	}
	w.open = w.flight < p.window.Size
	return w
}

// pair is a Path and a plain one, to which the same is done.
type pair struct {
	t *testing.T
	p *path.Path
	w *plain
}

func newPair(t *testing.T) *pair {
	return &pair{t, path.New(), newPlain()}
}

func (b *pair) check() {
	b.t.Helper()
	want(b.t, b.p, b.w.told())
}

func (b *pair) send(now int, f ...api.Frame) {
	b.t.Helper()
	if n, w := b.p.Send(now, f...), b.w.send(now, f...); n != w {
		b.t.Fatalf("11.1: Send: %d, not %d", n, w)
	}
	b.check()
}

func (b *pair) heard(now int, s ...[2]int) {
	b.t.Helper()
	kept := slices.Clone(s)
	f, e := b.p.Heard(s, now)
	w, we := b.w.heard(s, now)
	if e != we {
		b.t.Fatalf("11.1: Heard of %v: %d, not %d", s, e, we)
	}
	wantFrames(b.t, "Heard", f, w...)
	if !slices.Equal(s, kept) {
		b.t.Fatalf("R2: Heard turned the runs %v to %v", kept, s)
	}
	b.check()
}

func (b *pair) late(now int) {
	b.t.Helper()
	wantFrames(b.t, "Late", b.p.Late(now), b.w.late(now)...)
	b.check()
}

func (b *pair) probe(now int) {
	b.t.Helper()
	f, ok := b.p.Probe(now)
	w, wok := b.w.probe(now)
	if ok != wok {
		b.t.Fatalf("11.1: Probe at %d: %t", now, ok)
	}
	wantFrames(b.t, "Probe", f, w...)
	b.check()
}

// dice is a row of numbers that look thrown, the same at each run.
type dice uint64

func (d *dice) below(n int) int {
	*d = *d*6364136223846793005 + 1442695040888963407
	return int(uint64(*d)>>33) % n
}

// ends are ints at both ends of what there is, and about those that the chapters name.
func ends() []int {
	return []int{math.MinInt, math.MinInt + 1, math.MinInt + 8, -api.Most, -8, -1, 0, 1, 8, api.Most, api.Most + 1, math.MaxInt - 1, math.MaxInt}
}

// sent is a Path that sent so many packets, each with got of its number, packet n at ten times n.
func sent(many int) *path.Path {
	p := path.New()
	for n := range many {
		p.Send(10*n, got(n))
	}
	return p
}

// gots are the frames of the packets of a sent with these numbers.
func gots(nums ...int) []api.Frame {
	var l []api.Frame
	for _, n := range nums {
		l = append(l, got(n))
	}
	return l
}

// TestExample: 11.1, the chapter's example.
func TestExample(t *testing.T) {
	p := path.New()
	p.Send(0, ping)
	f, ok := p.Probe(8)
	if !ok {
		t.Fatal("11.1: Send at 0, Probe at 8: false")
	}
	wantFrames(t, "Probe", f, ping)
	want(t, p, told{rtt: rtt.Rtt{Back: 1}, window: window(4, 32, 0, 0), next: 1, acked: -1, open: true})
}

// TestNew: 11.1, a zero Rtt, a zero Ledger, and cong.New's Window.
func TestNew(t *testing.T) {
	p := path.New()
	none := told{window: window(4, 32, 0, 0), acked: -1, open: true}
	want(t, p, none)
	if p.Rtt != (rtt.Rtt{}) || p.Window != cong.New() {
		t.Fatalf("11.1: New: %+v, %+v", p.Rtt, p.Window)
	}
	if p.Round() != 4 || p.Wait() != 8 || p.Rtt.Late() != 5 {
		t.Fatalf("11.1: New: Round %d, Wait %d, Late %d", p.Round(), p.Wait(), p.Rtt.Late())
	}
	if l := p.Take(); len(l) != 0 {
		t.Fatalf("11.1: New: Take %v", l)
	}
	for _, now := range ends() {
		wantHeard(t, p, nil, now)
		wantHeard(t, p, runs{}, now)
		wantHeard(t, p, runs{{0, -1}, {-5, -2}, {3, -3}}, now)
		wantForm(t, p, runs{{0, 0}}, now)
		wantLate(t, p, now)
		wantNoProbe(t, p, now)
		want(t, p, none)
	}
}

// TestSendNumbers: 11.1 and Ways, packets of no frame, of one, of several, of a list that is spread: numbers from 0 on, one by one.
func TestSendNumbers(t *testing.T) {
	p := path.New()
	list := []api.Frame{got(1), ping, closing, ackAlone}
	for k, send := range []func() int{
		func() int { return p.Send(1) },
		func() int { return p.Send(2, ping) },
		func() int { return p.Send(3, got(3), got(4), ackAlone) },
		func() int { return p.Send(4, list...) },
		func() int { return p.Send(5, list[1:3]...) },
		func() int { return p.Send(6, nil...) },
		func() int { return p.Send(7, []api.Frame{}...) },
		func() int { return p.Send(8, whole(8)...) },
	} {
		if num := send(); num != k || p.Next() != k+1 || p.Acked() != -1 {
			t.Fatalf("11.1: Send %d: %d, Next %d", k, num, p.Next())
		}
	}
	if p.Flight() != 5 {
		t.Fatalf("11.1: Flight %d", p.Flight())
	}
	var w []api.Frame
	for _, f := range [][]api.Frame{{ping}, {got(3), got(4), ackAlone}, list, list[1:3], whole(8)} {
		w = append(w, f...)
	}
	wantProbe(t, p, 100, w...)
	if num := p.Send(9, ping); num != 8 {
		t.Fatalf("11.1: Send behind a Probe: %d", num)
	}
}

// TestSendIsPut: 11.1, what Send puts into the Ledger: number, time, whether it Elicits, frames.
func TestSendIsPut(t *testing.T) {
	p := path.New()
	for n, now := range ends() {
		if p.Send(now, whole(n)...) != n {
			t.Fatalf("11.1: Send %d", n)
		}
	}
	at := len(ends())
	p.Send(5, ackAlone)
	p.Send(6)
	l := p.Take()
	if len(l) != at+2 {
		t.Fatalf("11.1: Send: %d in the Ledger", len(l))
	}
	for n, now := range ends() {
		if l[n].Num != n || l[n].At != now || !l[n].Elicits {
			t.Fatalf("11.1: Send: %+v in the Ledger", l[n])
		}
		wantFrames(t, "Send", l[n].Frames, whole(n)...)
	}
	if a, b := l[at], l[at+1]; a.Num != at || a.At != 5 || a.Elicits || b.Num != at+1 || b.At != 6 || b.Elicits || len(b.Frames) != 0 {
		t.Fatalf("11.1: Send: %+v, %+v in the Ledger", a, b)
	}
	wantFrames(t, "Send", l[at].Frames, ackAlone)
}

// TestSendAlone: 11.1, Send changes nothing but the Ledger.
func TestSendAlone(t *testing.T) {
	p := path.New()
	p.Rtt, p.Window = rtt.Rtt{Smooth: 80, Var: 20, Back: 3, Some: true}, window(3, 9, 1, 2)
	for n, now := range ends() {
		p.Send(now, ping)
		want(t, p, told{p.Rtt, window(3, 9, 1, 2), n + 1, -1, n + 1, math.MinInt, true, n+1 < 3})
		if p.Rtt != (rtt.Rtt{Smooth: 80, Var: 20, Back: 3, Some: true}) {
			t.Fatalf("11.1: Send: %+v", p.Rtt)
		}
	}
}

// TestElicits: 11.1, a packet Elicits, if one of its frames is neither Ack nor Close, wherever that one stands.
func TestElicits(t *testing.T) {
	flight := func(f ...api.Frame) int {
		p := path.New()
		p.Send(3, f...)
		if at, some := p.Oldest(); some != (p.Flight() == 1) || some && at != 3 || !some && at != 0 {
			t.Fatalf("11.1: %+v: Oldest %d, %t", f, at, some)
		}
		return p.Flight()
	}
	for _, f := range [][]api.Frame{nil, {ackAlone}, {closing}, {ackAlone, closing}, {closing, ackAlone, ackAlone}, {{Kind: api.Ack}}, {{Kind: api.Close, Note: 5, Data: []byte{1}}}} {
		if flight(f...) != 0 {
			t.Fatalf("11.1: %+v Elicits", f)
		}
	}
	kinds := []int{api.Ping, api.Stream, api.Reset, api.Stop, api.DataLimit, api.StreamLimit, api.StreamCount, api.Datagram, api.Got, api.Away, 0, -1, 13, 99, math.MinInt, math.MaxInt}
	for _, kind := range kinds {
		one := api.Frame{Kind: kind}
		for _, f := range [][]api.Frame{{one}, {one, ackAlone}, {ackAlone, one}, {one, closing}, {closing, one}, {ackAlone, one, closing}, {closing, ackAlone, ackAlone, one}, {one, one}} {
			if flight(f...) != 1 {
				t.Fatalf("11.1: %+v does not Elicit", f)
			}
		}
	}
}

// TestHeardOne: 11.1, Heard of one packet, each of several in turn: its frames alone.
func TestHeardOne(t *testing.T) {
	for n := range 5 {
		p := sent(5)
		wantHeard(t, p, runs{{n, n}}, 99, got(n))
		oldest := 0
		if n == 0 {
			oldest = 10
		}
		want(t, p, told{smooth(99 - 10*n), window(5, 32, 0, 0), 5, n, 4, oldest, true, true})
	}
}

// TestHeardRuns: 11.1, Heard of several runs, in whatever order, one over another: frames in the order of their packets, each once.
func TestHeardRuns(t *testing.T) {
	for _, c := range []struct {
		s    runs
		nums []int
	}{
		{runs{{0, 9}}, []int{0, 1, 2, 3, 4, 5, 6, 7, 8, 9}},
		{runs{{8, 9}, {5, 6}, {0, 2}}, []int{0, 1, 2, 5, 6, 8, 9}},
		{runs{{0, 2}, {5, 6}, {8, 9}}, []int{0, 1, 2, 5, 6, 8, 9}},
		{runs{{5, 6}, {8, 9}, {0, 2}}, []int{0, 1, 2, 5, 6, 8, 9}},
		{runs{{3, 7}, {5, 9}, {4, 4}}, []int{3, 4, 5, 6, 7, 8, 9}},
		{runs{{9, 9}, {9, 9}, {9, 9}}, []int{9}},
		{runs{{9, 9}, {7, 7}, {5, 5}, {3, 3}, {1, 1}}, []int{1, 3, 5, 7, 9}},
		{runs{{4, 5}, {6, 9}}, []int{4, 5, 6, 7, 8, 9}},
	} {
		p := path.New()
		var w []api.Frame
		for n := range 10 {
			p.Send(10*n, whole(n)...)
			if slices.Contains(c.nums, n) {
				w = append(w, whole(n)...)
			}
		}
		wantHeard(t, p, c.s, 95, w...)
		if p.Flight() != 10-len(c.nums) || p.Acked() != 9 || p.Window != window(4+len(c.nums), 32, 0, 0) || p.Rtt != smooth(5) {
			t.Fatalf("11.1: Heard of %v: Flight %d, Acked %d, %+v, %+v", c.s, p.Flight(), p.Acked(), p.Window, p.Rtt)
		}
	}
}

// TestHeardTwice: 11.1, what was told by one call, is not told by another, and says nothing.
func TestHeardTwice(t *testing.T) {
	p := sent(6)
	wantHeard(t, p, runs{{2, 3}}, 35, gots(2, 3)...)
	before := told{smooth(5), window(6, 32, 0, 0), 6, 3, 4, 0, true, true}
	want(t, p, before)
	for _, s := range []runs{{{2, 3}}, {{3, 3}, {2, 2}}, {{2, 2}}, {{3, 3}}, nil} {
		wantHeard(t, p, s, 900)
		want(t, p, before)
	}
	wantHeard(t, p, runs{{1, 4}}, 47, gots(1, 4)...)
	// 7 beside 5: Var 10 - 2 + 2, Smooth 40 - 5 + 7
	want(t, p, told{rtt.Rtt{Smooth: 42, Var: 10, Some: true}, window(8, 32, 0, 0), 6, 4, 2, 0, true, true})
	wantHeard(t, p, runs{{0, 5}}, 55, gots(0, 5)...)
	wantHeard(t, p, runs{{0, 5}}, 55)
	if p.Flight() != 0 || p.Size != 10 {
		t.Fatalf("11.1: all heard: Flight %d, Size %d", p.Flight(), p.Size)
	}
}

// TestWholeFrames: 11.1, frames are told with all that they carry, the Note too, in order, by Heard, by Late and by Probe.
func TestWholeFrames(t *testing.T) {
	odd := []api.Frame{{}, {Kind: 99, ID: -1, Off: math.MinInt, A: math.MaxInt, B: -2, Note: math.MinInt, Fin: true, Data: []byte{}, Spans: runs{{9, -9}}}, ping, ping}
	lists := [][]api.Frame{odd, {}, whole(1), whole(3), {ackAlone}, {closing, got(4)}}
	all := slices.Concat(lists...)
	for _, how := range []func(*path.Path) []api.Frame{
		func(p *path.Path) []api.Frame { f, _ := p.Heard(runs{{5, 5}, {0, 4}}, 3); return f },
		func(p *path.Path) []api.Frame { f, _ := p.Probe(1000); return f },
		func(p *path.Path) []api.Frame {
			f, _ := p.Heard(runs{{5, 5}}, 3)
			return append(p.Late(1000), f...)
		},
	} {
		p := path.New()
		for n, f := range lists {
			p.Send(n, f...)
		}
		wantFrames(t, "told", how(p), all...)
		if p.Flight() != 0 {
			t.Fatalf("11.1: Flight %d", p.Flight())
		}
	}
}

// TestGood: 11.1, Good of just those of the told ones that Elicit.
func TestGood(t *testing.T) {
	for _, c := range []struct {
		s    runs
		good int
	}{
		{runs{{0, 0}}, 1},
		{runs{{1, 1}}, 0},
		{runs{{2, 2}}, 0},
		{runs{{3, 3}}, 0},
		{runs{{4, 4}}, 1},
		{runs{{5, 5}}, 1},
		{runs{{1, 3}}, 0},
		{runs{{0, 3}}, 1},
		{runs{{1, 4}}, 1},
		{runs{{0, 5}}, 3},
		{runs{{4, 5}, {1, 2}}, 2},
		{runs{{0, 9}}, 7},
		{runs{{6, 9}}, 4},
		{nil, 0},
	} {
		for _, ahead := range []cong.Window{window(4, 32, 0, 0), window(5, 5, 3, 0), window(3, 5, 0, 0), window(2, 2, 1, 4), window(32, 16, 31, 0), window(31, 32, 0, 9)} {
			p := path.New()
			p.Send(0, got(0))
			p.Send(0, ackAlone)
			p.Send(0, closing)
			p.Send(0)
			p.Send(0, ackAlone, got(4))
			p.Send(0, closing, ping)
			for n := 6; n < 10; n++ {
				p.Send(0, got(n))
			}
			p.Window = ahead
			w := ahead
			w.Good(c.good)
			if _, e := p.Heard(c.s, 2); e != api.OK || p.Window != w {
				t.Fatalf("11.1: Heard of %v: %+v behind %+v, not %+v", c.s, p.Window, ahead, w)
			}
			// again: none of them is told
			if _, e := p.Heard(c.s, 2); e != api.OK || p.Window != w {
				t.Fatalf("11.1: Heard of %v again: %+v, not %+v", c.s, p.Window, w)
			}
		}
	}
}

// TestSample: 11.1, when there is a Sample, and of whose time.
func TestSample(t *testing.T) {
	// packets 0 to 7, sent at 10, 20, .. 80; of these 1, 2, 5 and 6 do not Elicit
	ready := func() *path.Path {
		p := path.New()
		for n, f := range []api.Frame{got(0), ackAlone, closing, got(3), got(4), closing, ackAlone, got(7)} {
			p.Send(10*n+10, f)
		}
		return p
	}
	for row, c := range []struct {
		ahead, s runs
		w        rtt.Rtt
	}{
		// the last one told is Acked()'s
		{nil, runs{{7, 7}}, smooth(20)},
		// so is the first one sent
		{nil, runs{{0, 0}}, smooth(90)},
		// of the last of them
		{nil, runs{{3, 4}}, smooth(50)},
		// whatever the runs' order
		{nil, runs{{0, 0}, {4, 4}}, smooth(50)},
		{nil, runs{{4, 4}, {0, 0}}, smooth(50)},
		{nil, runs{{0, 7}}, smooth(20)},
		// none Elicits
		{nil, runs{{1, 1}}, rtt.Rtt{}},
		{nil, runs{{2, 2}}, rtt.Rtt{}},
		{nil, runs{{5, 6}, {1, 2}}, rtt.Rtt{}},
		// another one Elicits: the last one's time all the same
		{nil, runs{{0, 1}}, smooth(80)},
		{nil, runs{{0, 2}}, smooth(70)},
		{nil, runs{{4, 6}}, smooth(30)},
		{nil, runs{{6, 6}, {0, 0}}, smooth(30)},
		// the last one alone Elicits
		{nil, runs{{1, 3}}, smooth(60)},
		// none is told
		{nil, nil, rtt.Rtt{}},
		// Acked() stood higher
		{runs{{6, 6}}, runs{{3, 4}}, rtt.Rtt{}},
		{runs{{6, 6}}, runs{{0, 5}}, rtt.Rtt{}},
		// Acked()'s was told ahead
		{runs{{6, 6}}, runs{{0, 6}}, rtt.Rtt{}},
		{runs{{6, 6}}, runs{{6, 6}}, rtt.Rtt{}},
		{runs{{5, 6}, {1, 2}}, runs{{0, 6}}, rtt.Rtt{}},
		{runs{{1, 2}}, runs{{0, 2}}, rtt.Rtt{}},
		// above what was told ahead
		{runs{{1, 2}}, runs{{0, 3}}, smooth(60)},
		{runs{{5, 5}}, runs{{4, 6}}, smooth(30)},
		// above it, and does not Elicit
		{runs{{5, 5}}, runs{{6, 6}}, rtt.Rtt{}},
		{runs{{5, 5}}, runs{{5, 7}}, smooth(20)},
		// a run turned about has none, and is not Acked()'s
		{nil, runs{{3, 4}, {7, 6}}, smooth(50)},
		// nor one from below 0
		{nil, runs{{-1, 7}, {3, 3}}, smooth(60)},
		{runs{{-4, -2}, {6, 5}}, runs{{4, 4}, {0, 0}}, smooth(50)},
	} {
		p := ready()
		if _, e := p.Heard(c.ahead, 5000); e != api.OK || p.Rtt != (rtt.Rtt{}) {
			t.Fatalf("11.1: row %d: Heard of %v: %d, %+v", row, c.ahead, e, p.Rtt)
		}
		if _, e := p.Heard(c.s, 100); e != api.OK || p.Rtt != c.w {
			t.Fatalf("11.1: row %d: Heard of %v: %d, %+v, not %+v", row, c.s, e, p.Rtt, c.w)
		}
	}
}

// TestSampleOfTheGone: 11.1, what is lost, or taken, is not told any more, and gives no Sample and no Good, though Acked() goes up to it.
func TestSampleOfTheGone(t *testing.T) {
	p := sent(3)
	wantProbe(t, p, 30, gots(0, 1, 2)...)
	p.Send(31, got(3))
	p.Send(32, got(4))
	wantHeard(t, p, runs{{0, 2}}, 33)
	want(t, p, told{rtt.Rtt{Back: 1}, window(4, 32, 0, 0), 5, 2, 2, 31, true, true})
	wantHeard(t, p, runs{{0, 3}}, 40, got(3))
	want(t, p, told{smooth(9), window(5, 32, 0, 0), 5, 3, 1, 32, true, true})

	p = sent(5)
	p.Take()
	wantHeard(t, p, runs{{4, 4}}, 50)
	p.Send(50, got(5))
	p.Send(51, got(6))
	wantHeard(t, p, runs{{4, 5}}, 53, got(5))
	want(t, p, told{smooth(3), window(5, 32, 0, 0), 7, 5, 1, 51, true, true})

	p = sent(6)
	wantHeard(t, p, runs{{5, 5}}, 57, got(5))
	wantLate(t, p, 0, gots(0, 1, 2)...)
	before := ask(p)
	wantHeard(t, p, runs{{0, 2}, {5, 5}}, 90)
	want(t, p, before)
	wantHeard(t, p, runs{{0, 4}}, 90, gots(3, 4)...)
	want(t, p, told{smooth(7), window(3, 2, 0, 6), 6, 5, 0, 0, false, true})
}

// TestSampleTicks: 11.1, a Sample is of now less the time, whatever that is: 0, below, beyond what an int holds.
func TestSampleTicks(t *testing.T) {
	for _, c := range []struct{ at, now, x int }{
		{5, 5, 1}, {5, 6, 1}, {5, 7, 2}, {5, 15, 10}, {5, 4, 1}, {5, -100, 1}, {0, 999, 999}, {0, 1000, 1000}, {0, 1001, 1000}, {-500, 499, 999}, {-500, 501, 1000},
		{-1, 1, 2}, {-10, -3, 7}, {-3, -10, 1}, {0, math.MaxInt, 1000}, {-1, math.MaxInt, 1000}, {-2, math.MaxInt, 1000}, {0, math.MinInt, 1}, {1, math.MinInt, 1}, {2, math.MinInt, 1},
		{math.MinInt, math.MaxInt, 1000}, {math.MinInt, 0, 1000}, {math.MinInt, -1, 1000}, {math.MinInt, 1, 1000}, {math.MinInt, math.MinInt, 1}, {math.MinInt, math.MinInt + 40, 40},
		{math.MaxInt, math.MinInt, 1}, {math.MaxInt, 0, 1}, {math.MaxInt, -1, 1}, {math.MaxInt, -2, 1}, {math.MaxInt, math.MaxInt, 1}, {math.MaxInt - 40, math.MaxInt, 40}, {math.MaxInt, math.MaxInt - 1, 1},
	} {
		p := path.New()
		p.Send(c.at, ping)
		wantHeard(t, p, runs{{0, 0}}, c.now, ping)
		want(t, p, told{smooth(c.x), window(5, 32, 0, 0), 1, 0, 0, 0, false, true})
	}
	for _, at := range ends() {
		for _, now := range ends() {
			b := newPair(t)
			b.send(at, got(0))
			b.send(0, got(1), ackAlone)
			b.heard(now, [2]int{0, 0})
			b.heard(now, [2]int{1, 1})
		}
	}
}

// TestSamples: 11.1, one Sample behind another; each puts Back to 0.
func TestSamples(t *testing.T) {
	p := path.New()
	for n, c := range []struct{ x, smooth, vary int }{{4, 32, 8}, {4, 32, 6}, {12, 40, 13}, {2, 37, 13}, {0, 34, 13}, {5000, 1030, 1006}} {
		p.Back = n
		p.Send(100*n, got(n), ackAlone)
		wantHeard(t, p, runs{{n, n}}, 100*n+c.x, got(n), ackAlone)
		if p.Rtt != (rtt.Rtt{Smooth: c.smooth, Var: c.vary, Some: true}) {
			t.Fatalf("11.1: sample %d: %+v", n, p.Rtt)
		}
	}
	// where there is none, Back stays
	p.Back = 3
	p.Send(0, ackAlone)
	wantHeard(t, p, runs{{6, 6}}, 9, ackAlone)
	if p.Back != 3 {
		t.Fatalf("11.1: Back %d", p.Back)
	}
}

// TestForm: 11.1, R3, a run whose last is Next() or more, wherever it stands: ErrForm, and nothing has changed.
func TestForm(t *testing.T) {
	for _, many := range []int{0, 1, 4, 7} {
		for _, wrong := range (runs{{many, many}, {0, many}, {many - 1, many}, {-5, many}, {many + 3, many}, {many, many + 1}, {0, math.MaxInt}, {math.MinInt, math.MaxInt}, {math.MaxInt, math.MaxInt}, {0, api.Most}, {api.Most + 1, api.Most + 1}}) {
			p := sent(many)
			wantForm(t, p, runs{wrong}, 80)
			for _, right := range (runs{{0, many - 1}, {many - 1, many - 1}, {3, 2}, {-1, -1}}) {
				wantForm(t, p, runs{wrong, right}, 80)
				wantForm(t, p, runs{right, wrong}, 81)
				wantForm(t, p, runs{right, wrong, right}, -5)
			}
			// all is out yet, and told by the first right one
			var w []api.Frame
			for n := range many {
				w = append(w, got(n))
			}
			wantHeard(t, p, runs{{0, many - 1}}, 80, w...)
			if many > 0 && (p.Rtt != smooth(80-10*(many-1)) || p.Size != 4+many || p.Acked() != many-1) {
				t.Fatalf("11.1: behind ErrForm: %+v, %+v", p.Rtt, p.Window)
			}
			wantForm(t, p, runs{wrong}, 99)
		}
	}
	// behind a loss and a probe too
	p := sent(6)
	wantHeard(t, p, runs{{4, 4}}, 45, got(4))
	wantLate(t, p, 12, gots(0, 1)...)
	wantForm(t, p, runs{{2, 3}, {5, 6}}, 60)
	wantProbe(t, p, 90, gots(2, 3, 5)...)
	wantForm(t, p, runs{{2, 3}, {5, 6}}, 99)
	want(t, p, told{rtt.Rtt{Smooth: 40, Var: 10, Back: 1, Some: true}, window(2, 2, 0, 6), 6, 4, 0, 0, false, true})
}

// TestOddRuns: 11.1, runs turned about, from below 0, none at all: nobody is in them, and they are not Acked()'s.
func TestOddRuns(t *testing.T) {
	for _, s := range []runs{nil, {}, {{3, 2}}, {{-1, 3}}, {{-1, -1}}, {{math.MinInt, math.MinInt}}, {{math.MinInt, 3}}, {{math.MaxInt, 0}}, {{math.MaxInt, math.MinInt}}, {{0, -1}}, {{4, 3}, {-2, 0}, {1, 0}}} {
		p := sent(4)
		before := ask(p)
		for _, now := range ends() {
			wantHeard(t, p, s, now)
			want(t, p, before)
		}
		wantHeard(t, p, append(slices.Clone(s), [2]int{1, 2}), 22, gots(1, 2)...)
		want(t, p, told{smooth(2), window(6, 32, 0, 0), 4, 2, 2, 0, true, true})
	}
}

// TestLateByThree: 11.1, Late tells those 3 below Acked(), whenever: their frames in order; one Bad of the last one's number and Next().
func TestLateByThree(t *testing.T) {
	p := path.New()
	for n := range 9 {
		p.Send(100, whole(n)...)
	}
	wantLate(t, p, 100)
	wantLate(t, p, 9999)
	if p.Window != cong.New() {
		t.Fatalf("11.1: Late of nothing: %+v", p.Window)
	}
	wantHeard(t, p, runs{{3, 3}}, 104, whole(3)...)
	wantLate(t, p, 100, whole(0)...)
	want(t, p, told{smooth(4), window(2, 2, 0, 9), 9, 3, 7, 100, true, false})
	wantLate(t, p, 100)
	wantHeard(t, p, runs{{7, 7}}, 104, whole(7)...)
	wantLate(t, p, math.MinInt, slices.Concat(whole(1), whole(2), whole(4))...)
	want(t, p, told{rtt.Rtt{Smooth: 32, Var: 6, Some: true}, window(2, 2, 1, 9), 9, 7, 3, 100, true, false})
}

// TestLateByAge: 11.1, Late tells those below Acked() that were sent Rtt.Late() ticks ago or more.
func TestLateByAge(t *testing.T) {
	// a round of 8 is late behind 10
	ready := func() *path.Path {
		p := path.New()
		p.Send(100, got(0))
		p.Send(101, got(1))
		p.Send(102, got(2))
		p.Send(102, got(3))
		wantHeard(t, p, runs{{2, 2}}, 110, got(2))
		if p.Rtt.Late() != 10 {
			t.Fatalf("8.1: Late %d", p.Rtt.Late())
		}
		return p
	}
	none := told{smooth(8), window(5, 32, 0, 0), 4, 2, 3, 100, true, true}
	one := told{smooth(8), window(2, 2, 0, 4), 4, 2, 2, 101, true, false}
	two := told{smooth(8), window(2, 2, 0, 4), 4, 2, 1, 102, true, true}
	for _, c := range []struct {
		now  int
		nums []int
		w    told
	}{
		{math.MinInt, nil, none}, {0, nil, none}, {100, nil, none}, {109, nil, none},
		{110, []int{0}, one},
		{111, []int{0, 1}, two}, {112, []int{0, 1}, two}, {math.MaxInt, []int{0, 1}, two},
	} {
		p := ready()
		wantLate(t, p, c.now, gots(c.nums...)...)
		want(t, p, c.w)
	}
	// with no sample a round of 4 is late behind 5
	p := path.New()
	p.Send(10, got(0))
	p.Send(11, ackAlone)
	wantHeard(t, p, runs{{1, 1}}, 12, ackAlone)
	wantLate(t, p, 14)
	wantLate(t, p, 15, got(0))
	want(t, p, told{rtt.Rtt{}, window(2, 2, 0, 2), 2, 1, 0, 0, false, true})
}

// TestTwoLates: Ways, a Path's Late is its own, the Rtt's stands beside it, and neither asks for the other's.
func TestTwoLates(t *testing.T) {
	p := path.New()
	var own interface {
		Late(int) []api.Frame
	} = p
	var inner interface{ Late() int } = &p.Rtt
	p.Send(0, got(0))
	p.Send(0, ackAlone)
	wantHeard(t, p, runs{{1, 1}}, 0, ackAlone)
	if inner.Late() != 5 || p.Rtt.Late() != 5 {
		t.Fatalf("11.1: Rtt.Late %d", inner.Late())
	}
	// a sample turns what is late: behind 23 now
	p.Sample(20)
	if inner.Late() != 23 || p.Rtt.Late() != 23 {
		t.Fatalf("11.1: Rtt.Late %d", inner.Late())
	}
	before := ask(p)
	wantFrames(t, "Late", own.Late(22))
	want(t, p, before)
	wantFrames(t, "Late", own.Late(23), got(0))
	if inner.Late() != 23 || p.Rtt != smooth(20) {
		t.Fatalf("11.1: Late changed the Rtt: %+v", p.Rtt)
	}
	// Back says nothing of it
	p.Send(30, got(2))
	p.Send(30, ackAlone)
	wantHeard(t, p, runs{{3, 3}}, 31, ackAlone)
	p.Back = 9
	wantLate(t, p, 52)
	wantLate(t, p, 53, got(2))
	if p.Back != 9 {
		t.Fatalf("11.1: Late: Back %d", p.Back)
	}
}

// TestBad: 11.1, Bad where one of the lost Elicits: of the last one's number, whether that one Elicits or not, and Next().
func TestBad(t *testing.T) {
	for row, c := range []struct {
		lost []api.Frame // one a packet, all of them lost
		bad  bool
	}{
		{[]api.Frame{got(0)}, true},
		{[]api.Frame{ackAlone}, false},
		{[]api.Frame{closing}, false},
		{[]api.Frame{ackAlone, closing, ackAlone}, false},
		{[]api.Frame{got(0), got(1)}, true},
		{[]api.Frame{got(0), ackAlone}, true},
		{[]api.Frame{got(0), ackAlone, closing}, true},
		{[]api.Frame{ackAlone, got(1)}, true},
		{[]api.Frame{ackAlone, got(1), closing}, true},
	} {
		last := len(c.lost) - 1
		// a Till up to the last one's number lets Bad through, one above it does not
		for till := -1; till <= last+2; till++ {
			for behind := range 3 {
				p := path.New()
				p.Window = window(12, 32, 5, till)
				for _, f := range c.lost {
					p.Send(0, f)
				}
				for n := range 3 + behind {
					p.Send(9, got(n))
				}
				next := len(c.lost) + 3 + behind
				wantHeard(t, p, runs{{last + 3, last + 3}}, 10, got(2))
				ahead := p.Window
				wantLate(t, p, -1, c.lost...)
				w := ahead
				if c.bad && till <= last {
					w = window(6, 6, 0, next)
				}
				if ahead != window(13, 32, 5, till) || p.Window != w {
					t.Fatalf("11.1: row %d, Till %d: %+v, not %+v", row, till, p.Window, w)
				}
			}
		}
	}
}

// TestSecondLoss: 11.1, a loss of a packet that was sent ahead of Till is of the same round; one from Till on is bad again.
func TestSecondLoss(t *testing.T) {
	p := path.New()
	p.Window = window(16, 32, 0, 0)
	for n := range 8 {
		p.Send(0, got(n))
	}
	wantHeard(t, p, runs{{3, 3}}, 1, got(3))
	wantLate(t, p, 0, got(0))
	if p.Window != window(8, 8, 0, 8) {
		t.Fatalf("11.1: a first loss: %+v", p.Window)
	}
	wantHeard(t, p, runs{{5, 5}}, 1, got(5))
	wantLate(t, p, 0, gots(1, 2)...)
	if p.Window != window(8, 8, 1, 8) {
		t.Fatalf("11.1: a second loss: %+v", p.Window)
	}
	for n := 8; n < 12; n++ {
		p.Send(0, got(n))
	}
	wantHeard(t, p, runs{{10, 10}}, 1, got(10))
	wantLate(t, p, 0, gots(4, 6, 7)...)
	if p.Window != window(8, 8, 2, 8) {
		t.Fatalf("11.1: the last one ahead of Till: %+v", p.Window)
	}
	wantHeard(t, p, runs{{11, 11}}, 1, got(11))
	wantLate(t, p, 0, got(8))
	if p.Window != window(4, 4, 0, 12) {
		t.Fatalf("11.1: a loss from Till on: %+v", p.Window)
	}
	wantLate(t, p, 99, got(9))
	if p.Window != window(4, 4, 0, 12) {
		t.Fatalf("11.1: again of the same round: %+v", p.Window)
	}
	// one ahead of Till and one behind it, lost at once: the last one's number counts
	p = path.New()
	p.Window = window(16, 32, 0, 1)
	for n := range 5 {
		p.Send(0, got(n))
	}
	wantHeard(t, p, runs{{4, 4}}, 1, got(4))
	wantLate(t, p, 0, gots(0, 1)...)
	if p.Window != window(8, 8, 0, 5) {
		t.Fatalf("11.1: lost about Till: %+v", p.Window)
	}
}

// TestProbeWhen: 11.1, Probe is true from Wait() behind the Oldest on, not a tick ahead.
func TestProbeWhen(t *testing.T) {
	for _, r := range []rtt.Rtt{{}, {Back: 1}, {Back: 2}, {Back: 7}, {Back: -3}, smooth(1), smooth(2), smooth(5), smooth(10), smooth(1000), {Smooth: 40, Var: 2, Back: 1, Some: true}} {
		for _, at := range []int{0, 100, -100, 7, math.MinInt, math.MinInt + 1, math.MinInt + 40, api.Most, math.MaxInt - 40} {
			ready := func() *path.Path {
				p := path.New()
				p.Send(at, got(0))
				p.Send(at+3, ackAlone)
				p.Send(at+3, got(2))
				p.Rtt = r
				return p
			}
			p := ready()
			due := at + p.Wait()
			for _, now := range []int{due - 1, at, at + 1, math.MinInt} {
				wantNoProbe(t, p, now)
			}
			w := r
			w.Back++
			for _, now := range []int{due, due + 1, due + 2, math.MaxInt} {
				p := ready()
				wantProbe(t, p, now, got(0), ackAlone, got(2))
				want(t, p, told{w, window(4, 32, 0, 0), 3, -1, 0, 0, false, true})
			}
		}
	}
}

// TestProbeEdges: 11.1, R1, times at both ends of what an int holds: now less Wait() does not wrap round.
func TestProbeEdges(t *testing.T) {
	for _, at := range ends() {
		for _, now := range ends() {
			b := newPair(t)
			b.send(at, got(0))
			b.probe(now)
		}
	}
	p := path.New()
	p.Send(math.MaxInt, ping)
	for _, now := range []int{math.MinInt, math.MinInt + 1, math.MinInt + 7, 0, math.MaxInt} {
		wantNoProbe(t, p, now)
	}
	p = path.New()
	p.Send(math.MinInt, ping)
	for _, now := range []int{math.MinInt, math.MinInt + 1, math.MinInt + 7} {
		wantNoProbe(t, p, now)
	}
	wantProbe(t, p, math.MinInt+8, ping)
	p = path.New()
	p.Send(math.MaxInt-8, ping)
	wantNoProbe(t, p, math.MaxInt-1)
	wantProbe(t, p, math.MaxInt, ping)
}

// TestProbeNothing: 11.1, Probe where nothing is out that Elicits: false, and what is out stays so.
func TestProbeNothing(t *testing.T) {
	p := path.New()
	wantNoProbe(t, p, 0)
	wantNoProbe(t, p, 9999)
	p.Send(0, ackAlone)
	p.Send(0, closing)
	p.Send(0)
	wantNoProbe(t, p, 8)
	wantNoProbe(t, p, 9999)
	wantNoProbe(t, p, math.MaxInt)
	wantHeard(t, p, runs{{0, 2}}, 1, ackAlone, closing)
	wantNoProbe(t, p, 9999)
	p.Send(1, ping)
	wantHeard(t, p, runs{{3, 3}}, 2, ping)
	wantNoProbe(t, p, 9999)
	if p.Back != 0 {
		t.Fatalf("11.1: Back %d", p.Back)
	}
}

// TestProbeBeside: 11.1, where one that Elicits is old enough, all that is out is told; the age is that of the first that Elicits.
func TestProbeBeside(t *testing.T) {
	p := path.New()
	p.Send(0, ackAlone)
	p.Send(5, closing)
	p.Send(6, whole(2)...)
	p.Send(7)
	p.Send(12, ackAlone)
	p.Send(13, got(5))
	wantNoProbe(t, p, 8)
	wantNoProbe(t, p, 13)
	wantProbe(t, p, 14, slices.Concat([]api.Frame{ackAlone, closing}, whole(2), []api.Frame{ackAlone, got(5)})...)
	want(t, p, told{rtt.Rtt{Back: 1}, window(4, 32, 0, 0), 6, -1, 0, 0, false, true})
	wantNoProbe(t, p, 9999)
	// the first that Elicits counts, though a later one was sent at an earlier time
	p = path.New()
	p.Send(50, got(0))
	p.Send(0, got(1))
	wantNoProbe(t, p, 57)
	wantProbe(t, p, 58, gots(0, 1)...)
	// what was heard or lost is not told
	p = sent(6)
	wantHeard(t, p, runs{{4, 4}}, 41, got(4))
	wantLate(t, p, 0, gots(0, 1)...)
	wantProbe(t, p, 999, gots(2, 3, 5)...)
}

// TestProbeAgain: 11.1, Probe again and again: each waits twice as long, up to MaxWait; a Sample puts Back to 0.
func TestProbeAgain(t *testing.T) {
	p := path.New()
	now := 0
	for n, wait := range []int{8, 16, 32, 32, 32, 32, 32, 32, 32, 32, 32, 32, 32} {
		if num := p.Send(now, got(n)); num != n || p.Back != n || p.Wait() != wait {
			t.Fatalf("11.1: Probe %d: number %d, Back %d, Wait %d", n, num, p.Back, p.Wait())
		}
		wantNoProbe(t, p, now+wait-1)
		now += wait
		wantProbe(t, p, now, got(n))
		wantNoProbe(t, p, now)
		wantNoProbe(t, p, now+9999)
		want(t, p, told{rtt.Rtt{Back: n + 1}, window(4, 32, 0, 0), n + 1, -1, 0, 0, false, true})
	}
	p.Send(now, got(13))
	p.Send(now, ackAlone)
	wantHeard(t, p, runs{{0, 12}, {14, 14}}, now+3, ackAlone)
	if p.Back != 13 {
		t.Fatalf("11.1: behind what is no Sample: Back %d", p.Back)
	}
	p.Send(now, got(15))
	wantHeard(t, p, runs{{15, 15}}, now+2, got(15))
	want(t, p, told{smooth(2), window(5, 32, 0, 0), 16, 15, 1, now, true, true})
	if p.Wait() != 6 {
		t.Fatalf("11.1: behind a Sample: Wait %d", p.Wait())
	}
	wantNoProbe(t, p, now+5)
	wantProbe(t, p, now+6, got(13))
}

// TestBack: 11.1, Back is one more, whatever it was.
func TestBack(t *testing.T) {
	for _, back := range []int{0, 1, 2, 9, 10, 11, 64, -1, -2, -50, api.Most, math.MinInt, math.MaxInt - 1} {
		p := path.New()
		p.Back = back
		p.Send(0, ping)
		wantProbe(t, p, 32, ping)
		want(t, p, told{rtt.Rtt{Back: back + 1}, window(4, 32, 0, 0), 1, -1, 0, 0, false, true})
	}
}

// TestOpen: 11.1, Open is asked of what is out and Elicits, just below the window and just at it, ahead of and behind each call.
func TestOpen(t *testing.T) {
	p := path.New()
	open := func(w bool) {
		t.Helper()
		if p.Open() != w || p.Open() != w {
			t.Fatalf("11.1: Open is not %t: Flight %d, Size %d", w, p.Flight(), p.Size)
		}
	}
	open(true)
	for range 3 {
		p.Send(0, ping)
		open(true)
	}
	p.Send(0, ackAlone)
	p.Send(0, closing)
	p.Send(0)
	open(true)
	p.Send(0, ping)
	open(false)
	p.Send(0, ackAlone)
	open(false)
	p.Send(0, ping)
	open(false)
	// 0 to 2, 6 and 8 are out and Elicit: 5 of 4
	wantHeard(t, p, runs{{3, 4}}, 1, ackAlone, closing)
	open(false)
	wantForm(t, p, runs{{0, 9}}, 1)
	open(false)
	wantHeard(t, p, runs{{6, 6}}, 1, ping)
	open(true) // 4 of 5
	p.Send(1, ping)
	open(false) // 5 of 5
	wantLate(t, p, 0, ping, ping, ping)
	open(false) // 2 of 2
	wantHeard(t, p, runs{{8, 8}}, 2, ping)
	open(true) // 1 of 2
	p.Send(2, ping)
	open(false)
	wantNoProbe(t, p, 2)
	open(false)
	wantProbe(t, p, 99, ackAlone, ping, ping)
	open(true)
	// a window that its user set
	for size, w := range map[int]bool{math.MinInt: false, -1: false, 0: false, 1: true, 32: true, math.MaxInt: true} {
		p.Size = size
		open(w)
	}
	p.Send(100, ping)
	p.Size = 1
	open(false)
	p.Size = 2
	open(true)
}

// TestWindowsPace: 11.1, a whole window at a time: it grows by what is heard up to Slow, then by one a round, and is halved by a loss.
func TestWindowsPace(t *testing.T) {
	p := path.New()
	now := 0
	round := func(size int, lost bool) {
		t.Helper()
		first := p.Next()
		for p.Open() {
			p.Send(now, got(p.Next()))
		}
		if p.Next()-first != size {
			t.Fatalf("11.1: %d under way at %d, not %d: %+v", p.Next()-first, now, size, p.Window)
		}
		now += 5
		last := p.Next() - 1
		if !lost {
			if f, e := p.Heard(runs{{first, last}}, now); e != api.OK || len(f) != size {
				t.Fatalf("11.1: Heard of %d to %d: %d, %d", first, last, len(f), e)
			}
			return
		}
		if f, e := p.Heard(runs{{first + 1, last}}, now); e != api.OK || len(f) != size-1 {
			t.Fatalf("11.1: Heard of %d to %d: %d, %d", first+1, last, len(f), e)
		}
		wantLate(t, p, now, got(first))
	}
	for _, size := range []int{4, 8, 16, 32, 32} {
		round(size, false)
	}
	round(32, true)
	for size := 16; size < 20; size++ {
		round(size, false)
	}
	round(20, true)
	for size := 10; size < 13; size++ {
		round(size, false)
	}
	if p.Rtt.Round() != 5 || p.Wait() > 9 {
		t.Fatalf("11.1: Round %d, Wait %d", p.Round(), p.Wait())
	}
}

// TestPromoted: Ways, all calls of a Rtt, a Ledger and a Window are a Path's.
func TestPromoted(t *testing.T) {
	p := path.New()
	p.Put(api.Sent{Num: 0, At: 4, Elicits: true, Frames: gots(0)}, api.Sent{Num: 2, Elicits: true}, api.Sent{Num: 1, At: 5})
	if num := p.Send(6, got(2)); num != 2 || p.Next() != 3 || p.Flight() != 2 {
		t.Fatalf("11.1: Send behind Put: %d", num)
	}
	if done, e := p.Ack(runs{{1, 1}}); e != api.OK || len(done) != 1 || done[0].At != 5 || p.Acked() != 1 || p.Rtt != (rtt.Rtt{}) || p.Size != 4 {
		t.Fatalf("11.1: Ack: %v, %d", done, e)
	}
	if l := p.Lose(8, 5); len(l) != 0 {
		t.Fatalf("11.1: Lose: %v", l)
	}
	if l := p.Lose(9, 5); len(l) != 1 || l[0].Num != 0 || p.Size != 4 {
		t.Fatalf("11.1: Lose: %v", l)
	}
	p.Good(3)
	p.Sample(10)
	if p.Size != 7 || p.Round() != 10 || p.Wait() != 30 || !p.Fits(6) || p.Fits(7) || p.Smooth != 80 || p.Var != 20 || !p.Some || p.Slow != 32 || p.Part != 0 {
		t.Fatalf("11.1: Good, Sample: %+v, %+v", p.Window, p.Rtt)
	}
	p.Bad(2, 3)
	if p.Size != 3 || p.Till != 3 {
		t.Fatalf("11.1: Bad: %+v", p.Window)
	}
	if at, some := p.Oldest(); at != 6 || !some {
		t.Fatalf("11.1: Oldest: %d, %t", at, some)
	}
	if l := p.Take(); len(l) != 1 || l[0].Num != 2 || p.Flight() != 0 {
		t.Fatalf("11.1: Take: %v", l)
	}
	var l *ledger.Ledger = &p.Ledger
	l.Put(api.Sent{Num: 3, At: 50, Frames: gots(3)}, api.Sent{Num: 4, At: 51, Elicits: true})
	// whether a packet Elicits, is as it was put
	wantHeard(t, p, runs{{3, 3}}, 60, got(3))
	if p.Size != 3 || p.Part != 0 || p.Smooth != 80 {
		t.Fatalf("11.1: Heard of what was put: %+v, %+v", p.Window, p.Rtt)
	}
	wantHeard(t, p, runs{{4, 4}}, 61)
	if p.Part != 1 || p.Smooth != 80 || p.Var != 15 {
		t.Fatalf("11.1: Heard of what was put: %+v, %+v", p.Window, p.Rtt)
	}
	l.Put(api.Sent{Num: 5, At: 70, Elicits: true})
	if f, ok := p.Probe(95); !ok || len(f) != 0 || p.Back != 1 {
		t.Fatalf("11.1: Probe of a packet without frames, that was put as one that Elicits: %v, %t", f, ok)
	}
}

// end embeds a Path, as a connection does.
type end struct {
	path.Path
	name string
}

// TestEmbedded: Ways, a type that embeds a Path has its calls, and those of all three within it.
func TestEmbedded(t *testing.T) {
	w := end{*path.New(), "there"}
	if w.Send(0, ping) != 0 || w.Send(1, ackAlone, got(1)) != 1 || w.Flight() != 2 || !w.Open() {
		t.Fatalf("11.1: embedded: Next %d", w.Next())
	}
	if f, e := w.Heard(runs{{1, 1}}, 3); e != api.OK || len(f) != 2 || w.Round() != 2 || w.Size != 5 || w.Acked() != 1 {
		t.Fatalf("11.1: embedded: Heard: %v, %d", f, e)
	}
	if w.Rtt.Late() != 3 || len(w.Late(2)) != 0 || len(w.Late(3)) != 1 || w.Size != 2 || w.Till != 2 {
		t.Fatalf("11.1: embedded: Late: %+v", w.Window)
	}
	w.Send(5, got(2))
	if f, ok := w.Probe(11); !ok || len(f) != 1 || w.Back != 1 || w.name != "there" {
		t.Fatalf("11.1: embedded: Probe: %v, %t", f, ok)
	}
}

// scribble writes over all of a list of frames, spare room too.
func scribble(f []api.Frame) {
	for k := range f {
		data, spans := f[k].Data[:cap(f[k].Data)], f[k].Spans[:cap(f[k].Spans)]
		for j := range data {
			data[j] = 0xee
		}
		for j := range spans {
			spans[j] = [2]int{-7, -8}
		}
	}
	f = f[:cap(f)]
	for k := range f {
		f[k] = api.Frame{Kind: -1, Note: -9}
	}
}

// TestFramesAreTheUsers: R2, a list that is spread, its spare room, its frames' bytes and runs are not changed, and not kept.
func TestFramesAreTheUsers(t *testing.T) {
	for _, how := range []func(*path.Path) []api.Frame{
		func(p *path.Path) []api.Frame { f, _ := p.Heard(runs{{0, 2}}, 3); return f },
		func(p *path.Path) []api.Frame { f, _ := p.Probe(1000); return f },
		func(p *path.Path) []api.Frame {
			f, _ := p.Heard(runs{{2, 2}}, 3)
			return append(p.Late(1000), f...)
		},
	} {
		p := path.New()
		list := append(make([]api.Frame, 0, 9), whole(5)...)
		for k := range list {
			list[k].Data = append(make([]byte, 0, 20), list[k].Data...)
			list[k].Spans = append(make(runs, 0, 20), list[k].Spans...)
		}
		p.Send(0, list...)
		p.Send(0, list[:2]...)
		wantFrames(t, "R2: behind Send, the list", list, whole(5)...)
		for _, one := range list[4:9] {
			if !sameFrame(one, api.Frame{}) {
				t.Fatalf("R2: Send wrote into spare room: %+v", one)
			}
		}
		scribble(list[:2])
		scribble(list[2:4])
		one := []api.Frame{got(1)}
		p.Send(0, one...)
		one[0].ID = 99
		f := how(p)
		wantFrames(t, "R2: behind a change of what was sent", f, slices.Concat(whole(5), whole(5)[:2], gots(1))...)
		kept := []api.Frame{{Kind: -1, Note: -9}, {Kind: -1, Note: -9}, {Kind: -1, Note: -9}, {Kind: -1, Note: -9}}
		scribble(f)
		wantFrames(t, "R2: behind a change of what was told, the list", list, kept...)
	}
}

// TestToldIsNew: R2, what was told, spare room too, shares nothing with what is told later, nor with what is kept.
func TestToldIsNew(t *testing.T) {
	p := path.New()
	list := whole(1)
	for range 8 {
		p.Send(0, list...)
	}
	three := slices.Concat(list, list, list)
	w := slices.Clone(whole(1))
	f, e := p.Heard(runs{{3, 5}}, 6)
	if e != api.OK {
		t.Fatal(e)
	}
	wantFrames(t, "Heard", f, three...)
	scribble(f)
	f = p.Late(0)
	wantFrames(t, "Late", f, three...)
	scribble(f)
	f, _ = p.Probe(900)
	wantFrames(t, "Probe", f, slices.Concat(list, list)...)
	scribble(f)
	wantFrames(t, "R2: what was sent", list, w...)
	p.Send(900, list...)
	f, e = p.Heard(runs{{0, 8}}, 901)
	if e != api.OK {
		t.Fatal(e)
	}
	wantFrames(t, "Heard", f, w...)
}

// TestToldApart: R2, no two lists of one answer share memory, though one list was sent again and again.
func TestToldApart(t *testing.T) {
	data, spans := []byte{1, 2, 3, 4}, runs{{7, 8}, {1, 2}}
	one := api.Frame{Kind: 9, Data: data, Spans: spans}
	for _, how := range []func(*path.Path) []api.Frame{
		func(p *path.Path) []api.Frame { f, _ := p.Heard(runs{{0, 2}}, 3); return f },
		func(p *path.Path) []api.Frame { f, _ := p.Probe(1000); return f },
		func(p *path.Path) []api.Frame {
			f, _ := p.Heard(runs{{3, 3}}, 3)
			scribble(f)
			return p.Late(1000)
		},
	} {
		p := path.New()
		p.Send(0, one, one)
		p.Send(0, api.Frame{Kind: 9, Data: data[:2], Spans: spans[:1]}, api.Frame{Kind: 9, Data: data[1:], Spans: spans[1:]})
		p.Send(0, one)
		p.Send(0, ping)
		f := how(p)
		if len(f) < 5 {
			t.Fatalf("11.1: told %d", len(f))
		}
		for k := range f {
			for j := range f[k].Data[:cap(f[k].Data)] {
				f[k].Data[:cap(f[k].Data)][j] = byte(k)
			}
			for j := range f[k].Spans[:cap(f[k].Spans)] {
				f[k].Spans[:cap(f[k].Spans)][j] = [2]int{k, k}
			}
		}
		for k := range f {
			if slices.ContainsFunc(f[k].Data, func(b byte) bool { return b != byte(k) }) || slices.ContainsFunc(f[k].Spans, func(r [2]int) bool { return r != [2]int{k, k} }) {
				t.Fatalf("R2: frames of one answer share memory: %+v", f)
			}
		}
		if !bytes.Equal(data, []byte{1, 2, 3, 4}) || !slices.Equal(spans, runs{{7, 8}, {1, 2}}) {
			t.Fatal("R2: an answer shares memory with what was sent")
		}
	}
}

// TestRunsAreTheUsers: R2, the runs of a Heard, spare room too, are not changed, and not kept.
func TestRunsAreTheUsers(t *testing.T) {
	p := sent(10)
	s := append(make(runs, 0, 8), runs{{6, 7}, {1, 2}, {2, 4}, {9, 3}, {-1, 8}}...)
	room := s[:8]
	room[5] = [2]int{8, 8}
	same := slices.Clone(room)
	wantHeard(t, p, s, 75, gots(1, 2, 3, 4, 6, 7)...)
	if !slices.Equal(room, same) {
		t.Fatalf("R2: Heard changed its runs to %v", room)
	}
	for k := range room {
		room[k] = [2]int{0, 9}
	}
	want(t, p, told{smooth(5), window(10, 32, 0, 0), 10, 7, 4, 0, true, true})
	wantForm(t, p, append(s[:2:2], [2]int{0, 10}), 80)
	wantProbe(t, p, 999, gots(0, 5, 8, 9)...)
}

// TestTwo: R7, two Paths know nothing of one another.
func TestTwo(t *testing.T) {
	a, b := path.New(), path.New()
	none := ask(b)
	list := whole(3)
	for range 5 {
		a.Send(1, list...)
	}
	wantHeard(t, a, runs{{4, 4}}, 9, list...)
	wantLate(t, a, 0, slices.Concat(list, list)...)
	wantProbe(t, a, 99, slices.Concat(list, list)...)
	want(t, b, none)
	behind := ask(a)
	wantForm(t, b, runs{{0, 0}}, 9)
	if b.Send(50, list...) != 0 {
		t.Fatal("R7: numbers of one Path are another's")
	}
	wantHeard(t, b, runs{{0, 0}}, 53, list...)
	want(t, a, behind)
	want(t, b, told{smooth(3), window(5, 32, 0, 0), 1, 0, 0, 0, false, true})
}

// TestTimesGoBack: 11.1, what a call with an earlier now does is as it is written, reckoned with that.
func TestTimesGoBack(t *testing.T) {
	p := path.New()
	p.Send(100, got(0))
	p.Send(90, got(1))
	p.Send(80, got(2))
	if at, some := p.Oldest(); at != 100 || !some {
		t.Fatalf("11.1: Oldest %d", at)
	}
	wantNoProbe(t, p, 107)
	wantHeard(t, p, runs{{2, 2}}, 70, got(2))
	if p.Rtt != smooth(1) || p.Rtt.Late() != 2 {
		t.Fatalf("11.1: a Sample of a time that went back: %+v", p.Rtt)
	}
	wantLate(t, p, 91)
	wantLate(t, p, 92, got(1))
	want(t, p, told{smooth(1), window(2, 2, 0, 3), 3, 2, 1, 100, true, true})
	wantNoProbe(t, p, 102)
	wantProbe(t, p, 103, got(0))
	wantNoProbe(t, p, 0)
}

// TestExtremes: 11.1, R1, each now at both ends of what an int holds, in each call.
func TestExtremes(t *testing.T) {
	for _, at := range ends() {
		for _, now := range ends() {
			b := newPair(t)
			b.send(at, got(0))
			b.send(now, got(1))
			b.send(at, ackAlone)
			b.heard(now, [2]int{2, 2})
			b.late(now)
			b.heard(now, [2]int{math.MinInt, math.MaxInt})
			b.heard(at, [2]int{0, 1})
			b.late(at)
			b.send(at, got(3), closing)
			b.probe(now)
			b.send(now)
			b.probe(at)
			b.send(0, got(5))
			b.heard(now, [2]int{5, 5})
			b.late(now)
			b.probe(now)
		}
	}
}

// act does one of so many kinds of calls on both.
func (b *pair) act(kind, now int) {
	b.t.Helper()
	next := len(b.w.put)
	switch kind {
	case 0:
		b.send(now, got(now))
	case 1:
		b.send(now, ackAlone)
	case 2:
		b.send(now-3, closing, got(now))
		b.send(now, got(now), ping)
	case 3:
		b.heard(now, [2]int{next - 1, next - 1})
	case 4:
		b.heard(now+1, [2]int{next - 2, next - 2}, [2]int{0, 0})
	case 5:
		b.heard(now, [2]int{0, 1}, [2]int{next, next})
	case 6:
		b.heard(now, [2]int{next - 1, 0}, [2]int{1, 2})
	case 7:
		b.late(now)
	case 8:
		b.late(now + 5)
	case 9:
		b.probe(now)
	case 10:
		b.probe(now + 7)
	}
}

// TestEveryPlay: 11.1, every row of five calls against the chapter's words.
func TestEveryPlay(t *testing.T) {
	const kinds = 11
	for row := range kinds * kinds * kinds * kinds * kinds {
		b := newPair(t)
		b.send(0, got(0))
		b.send(1, ackAlone)
		b.send(2, got(2), closing)
		for k, rest := 0, row; k < 5; k, rest = k+1, rest/kinds {
			b.act(rest%kinds, 3*k+3)
		}
	}
}

// some are frames of a packet, thrown; some that Elicit, some that don't, some that carry much.
func some(d *dice, n int) []api.Frame {
	switch d.below(6) {
	case 0:
		return []api.Frame{ackAlone}
	case 1:
		return []api.Frame{closing, ackAlone}
	case 2:
		return nil
	case 3:
		return whole(n)
	default:
		return []api.Frame{ackAlone, got(n)}
	}
}

// TestLongPlay: 11.1, long plays of all calls, with wrong arguments and times that go back among them, against the chapter's words.
func TestLongPlay(t *testing.T) {
	d := dice(11)
	for play := range 120 {
		b, now := newPair(t), 0
		wide := []int{3, 6, 12, 40}[play%4]
		near := func() int { return len(b.w.put) - 1 - d.below(wide) }
		for range 250 {
			now += d.below(3)
			switch d.below(14) {
			case 0, 1, 2, 3, 4:
				b.send(now, some(&d, len(b.w.put))...)
			case 5:
				b.send(now-d.below(20), some(&d, len(b.w.put))...)
			case 6, 7, 8:
				var s runs
				for range d.below(4) {
					first := near()
					s = append(s, [2]int{first, min(first+d.below(5)-1, len(b.w.put)-1)})
				}
				if d.below(12) == 0 {
					e := ends()
					s = slices.Insert(s, d.below(len(s)+1), [2]int{e[d.below(len(e))], e[d.below(len(e))]})
				}
				b.heard(now, s...)
			case 9:
				b.heard(now, [2]int{near(), len(b.w.put) - d.below(2)})
			case 10, 11:
				b.late(now)
			case 12:
				b.probe(now)
			case 13:
				e := ends()
				far := e[d.below(len(e))]
				switch d.below(20) {
				case 0:
					b.late(far)
				case 1:
					b.probe(far)
				default:
					b.late(now - d.below(5))
					b.probe(now - d.below(5))
				}
			}
		}
	}
}

// TestMany: R1, R6, very many packets: heard as they come, from behind, in many runs, lost, and probed for at once.
func TestMany(t *testing.T) {
	const many = 1 << 17
	p := path.New()
	for n := range many {
		if p.Send(n, got(n)) != n {
			t.Fatalf("11.1: Send %d", n)
		}
		if n >= 20 {
			wantHeard(t, p, runs{{n - 20, n - 20}}, n, got(n-20))
		}
	}
	if p.Round() != 20 || p.Size != 32 || p.Flight() != 20 || !p.Open() {
		t.Fatalf("11.1: many, one by one: Round %d, %+v, Flight %d", p.Round(), p.Window, p.Flight())
	}
	p = path.New()
	var each runs
	for n := range many {
		p.Send(0, got(n), ping)
		if n%2 == 1 {
			each = append(each, [2]int{n, n}, [2]int{n, n})
		}
	}
	if f, e := p.Heard(each, 5); e != api.OK || len(f) != many || f[0].ID != 1 || f[many-2].ID != many-1 || p.Size != 32 || p.Flight() != many/2 || p.Rtt != smooth(5) {
		t.Fatalf("11.1: many runs: %d, %d, %+v", len(f), e, p.Window)
	}
	if f := p.Late(0); len(f) != many-2 || f[0].ID != 0 || f[many-4].ID != many-4 || p.Size != 16 || p.Till != many || p.Flight() != 1 {
		t.Fatalf("11.1: many lost: %d, %+v", len(f), p.Window)
	}
	p = path.New()
	for n := range many {
		p.Send(0, got(n))
	}
	f, ok := p.Probe(8)
	if !ok || len(f) != many || p.Flight() != 0 || p.Back != 1 {
		t.Fatalf("11.1: a Probe for many: %d, %t", len(f), ok)
	}
	for n, one := range f {
		if one.ID != n {
			t.Fatalf("11.1: a Probe for many: %d at %d", one.ID, n)
		}
	}
}
