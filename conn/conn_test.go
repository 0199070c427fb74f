package conn_test

import (
	"bytes"
	"math"
	"slices"
	"testing"

	"argosy/api"
	"argosy/conn"
	"argosy/packet"
	"argosy/path"
	"argosy/recv"
	"argosy/seal"
)

// TestExample: the chapter's.
func TestExample(t *testing.T) {
	c := conn.New(0, key, 0)
	id, e := c.OpenStream(0)
	if id != 0 || e != api.OK || c.Write(id, []byte("abc")) != api.OK {
		t.Fatalf("17.2: OpenStream: %d, %d", id, e)
	}
	l := c.Tick(1)
	w, _ := packet.Lay(seal.Step(key, 0), 0, -1, stream(0, 0, "abc", false))
	if len(l) != 1 || !bytes.Equal(l[0], w) {
		t.Fatalf("17: the example: %x, not %x", l, w)
	}
}

// TestNew: an end of which nothing was asked yet.
func TestNew(t *testing.T) {
	for _, now := range []int{math.MinInt, -5, 0, 7, math.MaxInt} {
		for who := range 2 {
			h := newHand(t, who, now)
			p := path.New()
			if x, w := ask(0, false, &h.c.Path), ask(0, false, p); x != w {
				t.Fatalf("17.1: New: %+v, not %+v", x, w)
			}
			h.wantOver(0, false)
			h.wantStreams()
			h.wantDatagrams()
			h.wantControls()
			h.wantNotes(nil, nil)
			for id := range 9 {
				h.wantDone(id, false)
			}
			h.wantNone(now)
			h.wantOver(0, false)
			for n := range 6 {
				for kind := range 2 {
					if id, e := h.c.OpenStream(kind); id != 4*n+2*kind+who || e != api.OK {
						t.Fatalf("17.1: stream %d of kind %d of %d: %d, %d", n, kind, who, id, e)
					}
				}
			}
		}
	}
}

// TestIsPath: what a Path has, a Conn has; its own calls stand ahead.
func TestIsPath(t *testing.T) {
	h := newHand(t, 0, 0)
	h.ok(h.c.Control(api.Got, 4))
	if h.c.Next() != 0 || h.c.Acked() != -1 || h.c.Size != 4 || h.c.Round() != api.Initial || !h.c.Open() {
		t.Fatalf("17.1: a new Path: %+v", h.c.Path)
	}
	h.wantOne(3, got(4))
	if at, some := h.c.Oldest(); at != 3 || !some || h.c.Flight() != 1 {
		t.Fatalf("17.1: Oldest: %d, %t", at, some)
	}
	h.says(5, upTo(0))
	if h.c.Size != 5 || h.c.Round() != 2 || h.c.Acked() != 0 || h.c.Flight() != 0 || h.c.Smooth != 16 {
		t.Fatalf("17.1: a Path that heard: %+v", h.c.Path)
	}
	// What is sent by the Path alone has its number.
	if num := h.c.Send(6, got(1)); num != 1 {
		t.Fatalf("11.1: Send: %d", num)
	}
	h.next++
	h.ok(h.c.Control(api.Got, 5))
	h.wantOne(6, got(5))
	var drop func(...int) int = h.c.Drop
	var take func(int, int) ([]byte, int, int, api.Errno) = h.c.Take
	if _, _, _, e := take(1, 1); drop() != 0 || e != api.ErrNone {
		t.Fatalf("17.2: Take: %d", e)
	}
}

// TestWho: what is not 0 or 1 is the nearest.
func TestWho(t *testing.T) {
	for _, x := range []struct{ who, as int }{{math.MinInt, 0}, {-2, 0}, {-1, 0}, {0, 0}, {1, 1}, {2, 1}, {3, 1}, {7, 1}, {math.MaxInt, 1}} {
		c := conn.New(x.who, key, 0)
		id, e := c.OpenStream(0)
		if id != x.as || e != api.OK {
			t.Fatalf("17.1: who %d: stream %d, %d", x.who, id, e)
		}
		c.Write(id, []byte("a"))
		w, _ := packet.Lay(seal.Step(key, uint64(x.as)), 0, -1, stream(id, 0, "a", false))
		if l := c.Tick(1); len(l) != 1 || !bytes.Equal(l[0], w) {
			t.Fatalf("17.1: who %d: %x, not %x", x.who, l, w)
		}
		b, _ := packet.Lay(seal.Step(key, uint64(1-x.as)), 0, -1, stream(1-x.as, 0, "b", false))
		if e := c.Receive(1, b); e != api.OK || !slices.Equal(c.Streams(), []int{1 - x.as}) {
			t.Fatalf("17.1: who %d: Receive: %d", x.who, e)
		}
	}
}

// TestKeys: what one end seals the other one opens, not itself, and no one with another key.
func TestKeys(t *testing.T) {
	for _, k := range []uint64{0, 1, 2, key, math.MaxUint64} {
		for who := range 2 {
			one, other, stranger := conn.New(who, k, 0), conn.New(1-who, k, 0), conn.New(1-who, k+1, 0)
			one.Control(api.Got, 3)
			l := one.Tick(1)
			if len(l) != 1 {
				t.Fatalf("17.4: %d packets", len(l))
			}
			if e := one.Receive(1, l[0]); e != api.ErrSeal {
				t.Fatalf("17.1: an end's own packet: %d", e)
			}
			if e := stranger.Receive(1, l[0]); e != api.ErrSeal {
				t.Fatalf("17.1: another key: %d", e)
			}
			if e := other.Receive(1, l[0]); e != api.OK || len(other.Controls()) != 1 || len(one.Controls())+len(stranger.Controls()) != 0 {
				t.Fatalf("17.1: the other end: %d", e)
			}
		}
	}
}

// busy is an end of which something is under way, waits and came, of each kind.
func busy(t *testing.T) *hand {
	h := newHand(t, 0, 0)
	h.open(0, 3)
	h.ok(h.c.Write(0, []byte("abc")), h.c.Finish(0), h.c.Write(4, []byte("defg")), h.c.Datagram(3, []byte("x")))
	h.wantOne(1, datagram("x"), stream(0, 0, "abc", true), stream(4, 0, "defg", false))
	h.ok(h.c.Datagram(4, []byte("y")))
	h.wantOne(2, datagram("y"))
	h.says(3, ack([2]int{0, 0}), stream(1, 0, "hello", true), stream(7, 0, "broken", false), reset(7, 9, 8, 2), datagram("d1"), got(1), datagram("d2"), away(2))
	// The second packet is lost.
	h.wantOne(10, upTo(0), ping)
	h.ok(h.c.Datagram(5, []byte("z")), h.c.Control(api.Got, 6), h.c.Datagram(6, []byte("w")))
	return h
}

// wantGone holds all calls of a busy end that is over with that code.
func wantGone(t *testing.T, h *hand, code int) {
	t.Helper()
	c := h.c
	h.wantOver(code, true)
	if id, e := c.OpenStream(0); id != 0 || e != api.ErrGone {
		t.Fatalf("17.1: OpenStream of one that is over: %d, %d", id, e)
	}
	if _, e := c.OpenStream(9); e != api.ErrGone {
		t.Fatalf("17.1: OpenStream(9) of one that is over: %d", e)
	}
	for k, e := range []api.Errno{
		c.Write(4, []byte("a")), c.Write(4, nil), c.Write(99, nil), c.Finish(4), c.Finish(99), c.Finish(0), c.Reset(4, 0, 0), c.Reset(4, -1, 0), c.Reset(99, 0, 0),
		c.Stop(1, 0), c.Stop(1, -1), c.Stop(99, 0), c.Stop(4, 0), c.Datagram(1, []byte("a")), c.Datagram(1, nil), c.Datagram(1, make([]byte, 200)),
		c.Control(api.Got, 0), c.Control(api.Away, 0), c.Control(api.Ping, 0), c.Control(api.Got, -1), c.Close(0), c.Close(code + 1), c.Close(-1),
		c.Receive(50, h.lay(h.num, got(9))), c.Receive(50, h.lay(h.num, closing(code+1))), c.Receive(50, h.lay(h.num-1, ping)), c.Receive(50, nil), c.Receive(50, []byte("none")),
		c.Receive(50, h.lay(h.num)),
	} {
		if e != api.ErrGone {
			t.Fatalf("17.1: call %d of one that is over: %d", k, e)
		}
	}
	if c.Drop(5) != 0 || c.Drop(5, 6) != 0 || c.Drop() != 0 {
		t.Fatal("17.1: Drop of one that is over")
	}
	h.wantNone(50)
	h.wantNone(1000)
	h.wantOver(code, true)
	h.wantDatagrams("d1", "d2")
	h.wantDatagrams()
	h.wantControls(got(1), away(2))
	h.wantControls()
	h.wantNotes([]int{3}, []int{4})
	h.wantNotes(nil, nil)
	h.wantStreams(1, 3, 7)
	h.wantTake(1, 2, "he", 0, 0)
	h.wantTake(1, 9, "llo", recv.Fin, 0)
	h.wantTake(7, 9, "br", recv.Broken, 9)
	h.wantTake(3, 9, "", 0, 0)
	for _, id := range []int{0, 4, 5, 11} {
		if b, over, code, e := c.Take(id, 9); len(b) != 0 || over != 0 || code != 0 || e != api.ErrNone {
			t.Fatalf("17.2: Take(%d): %q, %d, %d, %d", id, b, over, code, e)
		}
	}
	h.wantDone(0, true)
	h.wantDone(4, false)
	h.wantDone(8, false)
	h.wantDone(1, false)
	h.wantNone(51)
	h.wantOver(code, true)
}

// TestOverByClose: by its own Close, once that is sent.
func TestOverByClose(t *testing.T) {
	h := busy(t)
	h.ok(h.c.Close(77))
	h.wantOver(0, false)
	h.wantOne(11, closing(77))
	wantGone(t, h, 77)
}

// TestOverByOther: by a Close that came.
func TestOverByOther(t *testing.T) {
	for _, code := range []int{0, 5, api.Most - 1} {
		h := busy(t)
		h.says(11, closing(code))
		wantGone(t, h, code)
	}
}

// TestOverByFailure: by what may not be.
func TestOverByFailure(t *testing.T) {
	h := busy(t)
	h.fails(11, api.ErrState, stop(1, 0))
	wantGone(t, h, int(api.ErrState))
}

// TestOverByIdle: by silence.
func TestOverByIdle(t *testing.T) {
	h := busy(t)
	h.wantNone(303)
	wantGone(t, h, 0)
}

// TestClosing: an end that is closing is not over yet: all calls go on.
func TestClosing(t *testing.T) {
	h := newHand(t, 0, 0)
	h.ok(h.c.Close(5))
	h.open(0, 1)
	h.ok(h.c.Write(0, []byte("a")), h.c.Finish(0), h.c.Reset(0, 1, 0), h.c.Datagram(1, []byte("a")), h.c.Control(api.Got, 1))
	h.says(1, stream(1, 0, "b", true), datagram("c"), got(2))
	h.wantErr("Write", h.c.Write(0, nil), api.ErrState)
	h.wantErr("Close", h.c.Close(-1), api.ErrArg)
	h.ok(h.c.Stop(1, 0))
	h.wantTake(1, 9, "b", recv.Fin, 0)
	h.wantDatagrams("c")
	h.wantControls(got(2))
	h.wantStreams(1)
	if h.c.Drop(1) != 1 {
		t.Fatal("17.2: Drop of one that is closing")
	}
	h.wantOver(0, false)
	h.wantOne(2, upTo(0), closing(5))
	h.wantOver(5, true)
}

// TestCredit: of all streams together ConnRoom bytes go, and no more until more is granted.
func TestCredit(t *testing.T) {
	h := newHand(t, 1, 0)
	h.c.Size = 32
	h.open(0, 2)
	h.open(1, 1)
	for _, id := range []int{1, 5, 3} {
		h.ok(h.c.Write(id, []byte(text(400))))
	}
	sum := map[int]int{}
	for now := 1; now < 5; now++ {
		for _, l := range h.tick(now) {
			for _, f := range l {
				if f.Off != sum[f.ID] || string(f.Data) != text(400)[f.Off:f.Off+len(f.Data)] {
					t.Fatalf("17.4: %+v behind %d bytes", f, sum[f.ID])
				}
				sum[f.ID] += len(f.Data)
			}
		}
	}
	if sum[1] != 400 || sum[3] != 400 || sum[5] != 200 {
		t.Fatalf("17.1: %v bytes go", sum)
	}
	h.says(5, dataLimit(1001))
	h.wantOne(5, h.owed(), stream(5, 200, text(400)[200:201], false))
	h.says(6, dataLimit(1001), dataLimit(1000), dataLimit(3), dataLimit(0))
	h.wantOne(6, h.owed())
	h.says(7, dataLimit(api.Most))
	h.want(7, []api.Frame{h.owed(), stream(5, 201, text(400)[201:321], false), stream(5, 321, text(400)[321:], false)})
}

// TestGrant: as many bytes of all streams together may come.
func TestGrant(t *testing.T) {
	for _, last := range []int{199, 200, 201} {
		h := newHand(t, 1, 0)
		h.bring(1, 0, 0, text(400))
		h.bring(1, 4, 0, text(400))
		h.bring(1, 2, 0, text(last-1))
		if last <= 200 {
			h.says(1, stream(2, last-1, "a", false))
		} else {
			h.fails(1, api.ErrLimit, stream(2, last-1, "a", false))
		}
	}
}

// TestOpenStream: of either kind as many as the other end allows.
func TestOpenStream(t *testing.T) {
	h := newHand(t, 1, 0)
	for _, kind := range []int{-1, 2, 3, math.MinInt, math.MaxInt} {
		if id, e := h.c.OpenStream(kind); id != 0 || e != api.ErrArg {
			t.Fatalf("17.2: OpenStream(%d): %d, %d", kind, id, e)
		}
	}
	want := func(kind, id int, e api.Errno) {
		t.Helper()
		if got, err := h.c.OpenStream(kind); got != id || err != e {
			t.Fatalf("17.2: OpenStream(%d): %d, %d, not %d, %d", kind, got, err, id, e)
		}
	}
	for n := range 6 {
		want(0, 4*n+1, api.OK)
	}
	want(0, 0, api.ErrLimit)
	want(0, 0, api.ErrLimit)
	want(1, 3, api.OK)
	h.says(1, streamCount(7, false))
	want(0, 25, api.OK)
	want(0, 0, api.ErrLimit)
	for n := range 5 {
		want(1, 4*n+7, api.OK)
	}
	want(1, 0, api.ErrLimit)
	h.says(2, streamCount(8, true))
	want(1, 27, api.OK)
	want(1, 31, api.OK)
	want(1, 0, api.ErrLimit)
	want(0, 0, api.ErrLimit)
	want(5, 0, api.ErrArg)
	h.wantStreams()
}

// TestNotMine: Write, Finish and Reset are of a stream that was opened here.
func TestNotMine(t *testing.T) {
	h := newHand(t, 0, 0)
	h.open(0, 2)
	h.open(1, 1)
	h.says(1, stream(1, 0, "a", false), stream(3, 0, "b", false))
	for _, id := range []int{1, 3, 5, 8, 6, 10, -1, -4, api.Most, api.Most + 1, math.MinInt, math.MaxInt} {
		h.wantErr("Write", h.c.Write(id, []byte("a")), api.ErrNone)
		h.wantErr("Write", h.c.Write(id, make([]byte, 9999)), api.ErrNone)
		h.wantErr("Finish", h.c.Finish(id), api.ErrNone)
		h.wantErr("Reset", h.c.Reset(id, 0, 0), api.ErrNone)
		h.wantErr("Reset", h.c.Reset(id, -1, -1), api.ErrNone)
		h.wantDone(id, false)
	}
	h.wantOne(2, h.owed())
}

// TestMine: their own errors, and what goes.
func TestMine(t *testing.T) {
	h := newHand(t, 0, 0)
	h.open(0, 2)
	h.open(1, 2)
	c := h.c
	h.ok(c.Write(0, nil), c.Write(0, []byte("ab")), c.Write(2, []byte("cd")), c.Write(0, []byte("e")), c.Finish(2), c.Finish(4))
	h.wantErr("Write", c.Write(0, make([]byte, 3998)), api.ErrFull)
	h.wantErr("Write", c.Write(2, []byte("f")), api.ErrState)
	h.wantErr("Finish", c.Finish(2), api.ErrState)
	h.wantErr("Reset", c.Reset(0, -1, 0), api.ErrArg)
	h.wantErr("Reset", c.Reset(0, api.Most+1, 0), api.ErrArg)
	h.wantErr("Reset", c.Reset(0, 0, 4), api.ErrArg)
	h.wantErr("Reset", c.Reset(0, 0, -1), api.ErrArg)
	h.wantOne(1, stream(0, 0, "abe", false), stream(2, 0, "cd", true), stream(4, 0, "", true))
	h.ok(c.Write(6, []byte("gh")), c.Write(0, []byte("i")), c.Reset(0, 8, 1))
	h.wantErr("Reset", c.Reset(0, 9, 1), api.ErrState)
	h.wantErr("Reset", c.Reset(0, 9, 2), api.ErrState)
	h.wantErr("Finish", c.Finish(0), api.ErrState)
	h.wantErr("Write", c.Write(0, nil), api.ErrState)
	h.wantOne(2, reset(0, 8, 3, 1), stream(6, 0, "gh", false))
	// Once more, with fewer bytes that are sure: the code stays.
	h.ok(c.Reset(0, 9, 0), c.Reset(6, 0, 2))
	h.wantOne(3, reset(0, 8, 3, 0), reset(6, 0, 2, 2))
	h.says(4, upTo(1))
	h.wantErr("Reset", c.Reset(2, 0, 0), api.ErrState)
	for id, done := range map[int]bool{0: false, 2: true, 4: true, 6: false} {
		h.wantDone(id, done)
	}
	h.says(5, upTo(2))
	for id, done := range map[int]bool{0: true, 2: true, 4: true, 6: true, 1: false, 3: false, 8: false} {
		h.wantDone(id, done)
	}
}

// TestStop: of a stream of the other end that is there.
func TestStop(t *testing.T) {
	h := newHand(t, 0, 0)
	h.open(0, 1)
	c := h.c
	for _, id := range []int{1, 3, 0, 2, -1, math.MinInt, math.MaxInt} {
		h.wantErr("Stop", c.Stop(id, 0), api.ErrNone)
	}
	h.says(1, stream(5, 0, "a", true), reset(3, 1, 1, 0))
	for _, id := range []int{0, 4, 7, 9, -1, -3, math.MinInt, math.MaxInt} {
		h.wantErr("Stop", c.Stop(id, 0), api.ErrNone)
		h.wantErr("Stop", c.Stop(id, -1), api.ErrNone)
	}
	for _, code := range []int{-1, api.Most + 1, math.MinInt, math.MaxInt} {
		h.wantErr("Stop", c.Stop(1, code), api.ErrArg)
		h.wantErr("Stop", c.Stop(3, code), api.ErrArg)
	}
	// Behind all that waits; as often as it was asked; stream 1 is there by stream 5.
	h.ok(c.Control(api.Got, 1), c.Stop(5, 7), c.Control(api.Away, 2), c.Stop(1, 0), c.Stop(5, api.Most), c.Stop(5, 8), c.Stop(3, 3), c.Control(api.Got, 3))
	h.wantOne(2, h.owed(), got(1), stop(5, 7), away(2), stop(1, 0), stop(5, api.Most), stop(5, 8), stop(3, 3), got(3))
	h.wantNone(3)
}

// TestTake: what came of a stream of the other end that is there.
func TestTake(t *testing.T) {
	h := newHand(t, 0, 0)
	h.open(0, 1)
	h.ok(h.c.Write(0, []byte("own")))
	h.says(1, stream(5, 3, "def", true))
	for _, id := range []int{0, 2, 3, 9, -1, math.MinInt, math.MaxInt} {
		for _, most := range []int{0, 9} {
			if b, over, code, e := h.c.Take(id, most); len(b) != 0 || over != 0 || code != 0 || e != api.ErrNone {
				t.Fatalf("17.2: Take(%d): %q, %d, %d, %d", id, b, over, code, e)
			}
		}
	}
	h.wantTake(5, 9, "", 0, 0)
	h.wantTake(1, 9, "", 0, 0)
	h.says(1, stream(5, 0, "abc", false))
	h.wantTake(5, 0, "", 0, 0)
	h.wantTake(5, -1, "", 0, 0)
	h.wantTake(5, 1, "a", 0, 0)
	h.wantTake(5, 4, "bcde", 0, 0)
	h.wantTake(5, math.MaxInt, "f", recv.Fin, 0)
	h.wantTake(5, 9, "", recv.Fin, 0)
	h.says(1, stream(3, 0, "ghij", false), reset(3, 6, 9, 2), reset(7, api.Most, 0, 0))
	h.wantTake(3, 1, "g", 0, 0)
	h.wantTake(3, 9, "h", recv.Broken, 6)
	h.wantTake(3, 9, "", recv.Broken, 6)
	h.wantTake(7, 0, "", recv.Broken, api.Most)
}

// TestTakeEats: the connection's grant Eats as many as were taken.
func TestTakeEats(t *testing.T) {
	h := newHand(t, 0, 0)
	h.bring(1, 1, 0, text(400))
	h.bring(1, 5, 0, text(100))
	h.wantOne(1, h.owed())
	h.wantTake(1, 400, text(400), 0, 0)
	h.wantTake(5, 99, text(99), 0, 0)
	h.wantOne(2, streamLimit(1, 800))
	h.wantTake(5, 1, text(100)[99:], 0, 0)
	h.wantOne(3, dataLimit(1500))
	h.wantTake(5, 9, "", 0, 0)
	h.wantNone(4)
}

// TestTakeRest: where it tells over first, what will not be taken is given back, once.
func TestTakeRest(t *testing.T) {
	h := newHand(t, 0, 0)
	h.says(1, stream(1, 0, "abcdefghij", false), reset(1, 7, 300, 4))
	h.bring(1, 5, 0, text(199))
	h.wantTake(5, 199, text(199), 0, 0)
	h.wantTake(1, 3, "abc", 0, 0)
	h.wantTake(1, 9, "d", recv.Broken, 7)
	// 199 and 300.
	h.wantOne(1, h.owed())
	h.bring(1, 5, 199, "x")
	h.wantTake(5, 9, "x", 0, 0)
	h.wantOne(2, h.owed(), dataLimit(1500), streamLimit(5, 600))
	for range 9 {
		h.wantTake(1, 9, "", recv.Broken, 7)
	}
	h.wantNone(3)
	// Of one that is over by Fin there is no rest.
	h.says(3, stream(9, 0, text(100), true))
	h.wantTake(9, 99, text(99), 0, 0)
	for k := range 9 {
		h.wantTake(9, 9, text(100)[99+min(k, 1):], recv.Fin, 0)
	}
	h.bring(3, 5, 200, text(399))
	h.wantTake(5, 999, text(399), 0, 0)
	// 500, 100 and 399.
	h.wantOne(4, h.owed(), streamLimit(5, 999))
	h.bring(4, 5, 599, "y")
	h.wantTake(5, 999, "y", 0, 0)
	h.wantOne(5, h.owed(), dataLimit(2000))
}

// TestTakeCounts: where it tells over first, one more stream of that kind may come.
func TestTakeCounts(t *testing.T) {
	for kind := range 2 {
		h := newHand(t, 0, 0)
		id := func(n int) int { return 4*n + 2*kind + 1 }
		h.says(1, stream(id(0), 0, "", true), stream(id(1), 0, "ab", true), reset(id(2), 5, 9, 1), stream(id(3), 0, "c", false), stream(id(4), 0, "", true))
		for range 4 {
			h.wantTake(id(0), 9, "", recv.Fin, 0)
			h.wantTake(id(2), 9, "", 0, 0)
			h.wantTake(id(3), 0, "", 0, 0)
		}
		h.wantTake(id(1), 1, "a", 0, 0)
		h.wantTake(id(1), 1, "b", recv.Fin, 0)
		h.wantTake(id(1), 1, "", recv.Fin, 0)
		h.wantTake(id(3), 1, "c", 0, 0)
		h.wantOne(1, h.owed())
		h.says(2, stream(id(2), 0, "d", false))
		h.wantTake(id(2), 9, "d", recv.Broken, 5)
		h.wantOne(2, h.owed(), streamCount(9, kind == 1))
		for range 9 {
			h.wantTake(id(0), 9, "", recv.Fin, 0)
			h.wantTake(id(2), 9, "", recv.Broken, 5)
		}
		h.wantNone(3)
		// 9 of this kind, 6 of the other one.
		h.says(3, stream(id(8), 0, "e", false), stream((id(5))^2, 0, "f", false))
		h.wantTake(id(4), 9, "", recv.Fin, 0)
		h.wantOne(3, h.owed())
		h.fails(4, api.ErrLimit, stream(id(9)^2, 0, "g", false))
	}
}

// TestStreams: those of the other end that are there, rising.
func TestStreams(t *testing.T) {
	for who := range 2 {
		h := newHand(t, who, 0)
		id := func(kind, n int) int { return 4*n + 2*kind + 1 - who }
		h.open(0, 3)
		h.open(1, 3)
		h.wantStreams()
		h.says(1, stream(id(1, 1), 0, "", false))
		h.wantStreams(id(1, 0), id(1, 1))
		h.says(1, reset(id(0, 2), 0, 0, 0))
		h.wantStreams(id(0, 0), id(1, 0), id(0, 1), id(1, 1), id(0, 2))
		h.wantTake(id(0, 2), 1, "", recv.Broken, 0)
		h.says(1, stream(id(1, 0), 0, "a", true))
		h.wantTake(id(1, 0), 1, "a", recv.Fin, 0)
		h.wantStreams(id(0, 0), id(1, 0), id(0, 1), id(1, 1), id(0, 2))
	}
}

// TestDatagram: of 1 to MaxData less 4 bytes, as many as there is room for.
func TestDatagram(t *testing.T) {
	h := newHand(t, 0, 0)
	c := h.c
	none := [][]byte{nil, {}, []byte(text(117)), []byte(text(118)), []byte(text(120)), []byte(text(121)), []byte(text(9999))}
	for _, b := range none {
		h.wantErr("Datagram", c.Datagram(1, b), api.ErrArg)
	}
	h.wantNone(1)
	h.ok(c.Datagram(1, []byte("a")), c.Datagram(2, []byte(text(116))), c.Datagram(3, []byte(text(115))))
	h.want(1, []api.Frame{datagram("a"), datagram(text(116))}, []api.Frame{datagram(text(115))})
	var all []api.Frame
	for k := range 32 {
		b := string(rune('A' + k))
		h.ok(c.Datagram(k, []byte(b)))
		all = append(all, datagram(b))
	}
	h.wantErr("Datagram", c.Datagram(1, []byte("a")), api.ErrFull)
	h.wantErr("Datagram", c.Datagram(1, []byte(text(116))), api.ErrFull)
	// Both are so.
	for _, b := range none {
		h.wantErr("Datagram", c.Datagram(1, b), api.ErrArg)
	}
	if n := c.Drop(0); n != 1 {
		t.Fatalf("17.2: Drop: %d", n)
	}
	h.ok(c.Datagram(9, []byte("z")))
	h.wantErr("Datagram", c.Datagram(1, []byte("a")), api.ErrFull)
	h.wantOne(2, append(all[1:], datagram("z"))...)
	h.wantNone(3)
}

// TestDrop: of those that wait, all with such a Note.
func TestDrop(t *testing.T) {
	h := newHand(t, 1, 0)
	c := h.c
	want := func(n int, notes ...int) {
		t.Helper()
		if got := c.Drop(notes...); got != n {
			t.Fatalf("17.2: Drop(%v): %d, not %d", notes, got, n)
		}
	}
	want(0)
	want(0, 1)
	for k, note := range []int{5, 0, 5, -1, 7, math.MaxInt, 5, math.MinInt} {
		h.ok(c.Datagram(note, []byte{byte('a' + k)}))
	}
	want(0)
	want(0, 1, 2, -5)
	want(1, -1)
	want(3, 5)
	want(0, 5)
	list := []int{3, math.MaxInt, 0, 0, 9}
	want(2, list...)
	if !slices.Equal(list, []int{3, math.MaxInt, 0, 0, 9}) {
		t.Fatalf("R2: the list that was spread: %v", list)
	}
	h.wantOne(1, datagram("e"), datagram("h"))
	// What went waits no more.
	want(0, 7, math.MinInt)
	h.says(2, upTo(0))
	h.wantNotes([]int{7}, nil)
}

// TestDatagrams: what came, in order, each once.
func TestDatagrams(t *testing.T) {
	h := newHand(t, 0, 0)
	h.wantDatagrams()
	h.says(1, datagram("a"), datagram(text(116)), datagram("a"))
	h.says(1, ping)
	h.says(1, datagram(text(120)))
	h.wantDatagrams("a", text(116), "a", text(120))
	h.wantDatagrams()
	h.says(2, datagram("b"))
	h.wantDatagrams("b")
	h.wantDatagrams()
}

// TestControl: Got and Away alone, of a number that may be.
func TestControl(t *testing.T) {
	h := newHand(t, 0, 0)
	for kind := -1; kind < 16; kind++ {
		if kind != api.Got && kind != api.Away {
			h.wantErr("Control", h.c.Control(kind, 0), api.ErrArg)
			h.wantErr("Control", h.c.Control(kind, -1), api.ErrArg)
		}
	}
	for _, kind := range []int{api.Got, api.Away, math.MinInt, math.MaxInt} {
		for _, id := range []int{-1, api.Most + 1, math.MinInt, math.MaxInt} {
			h.wantErr("Control", h.c.Control(kind, id), api.ErrArg)
		}
	}
	h.wantNone(1)
	for _, id := range []int{0, api.Most, 3, 3} {
		h.ok(h.c.Control(api.Away, id), h.c.Control(api.Got, id))
	}
	h.wantOne(1, away(0), got(0), away(api.Most), got(api.Most), away(3), got(3), away(3), got(3))
	h.wantNone(2)
}

// TestControls: what came, in order, each once.
func TestControls(t *testing.T) {
	h := newHand(t, 0, 0)
	h.wantControls()
	h.ok(h.c.Control(api.Got, 8))
	h.says(1, got(5), away(0), stop0(h), got(5))
	h.says(1, got(api.Most), dataLimit(2), away(api.Most))
	h.wantControls(got(5), away(0), got(5), got(api.Most), away(api.Most))
	h.wantControls()
	h.says(2, away(1))
	h.wantControls(away(1))
	h.wantControls()
}

// stop0 is a Stop of a stream that is opened here for it.
func stop0(h *hand) api.Frame {
	h.open(0, 1)
	return stop(h.who, 3)
}

// TestNotes: of datagrams that were sent, with a Note of 0 or more, in the order in which it was learnt.
func TestNotes(t *testing.T) {
	h := newHand(t, 0, 0)
	says := func(now int, notes ...int) {
		t.Helper()
		var l []api.Frame
		for _, n := range notes {
			h.ok(h.c.Datagram(n, []byte("d")))
			l = append(l, datagram("d"))
		}
		h.wantOne(now, l...)
	}
	says(1, 4, -1, 0)
	says(1, math.MaxInt, 4)
	says(1, math.MinInt, 6)
	says(1, 7, -9, 8)
	h.wantNotes(nil, nil)
	h.says(2, ack([2]int{3, 3}, [2]int{1, 1}))
	// Packet 0 is lost, as 3 came; 2 is not late yet.
	h.wantNone(2)
	h.says(2, upTo(3))
	h.wantNotes([]int{math.MaxInt, 4, 7, 8, 6}, []int{4, 0})
	h.wantNotes(nil, nil)
	says(3, 9, -3, 0, math.MaxInt, 0)
	h.wantOne(3+h.c.Wait(), ping)
	h.wantNotes(nil, []int{9, 0, math.MaxInt, 0})
	h.wantNotes(nil, nil)
}

// TestClose: of several codes the first one.
func TestClose(t *testing.T) {
	for _, code := range []int{0, 1, 2, 300, api.Most} {
		h := newHand(t, 1, 0)
		for _, bad := range []int{-1, api.Most + 1, math.MinInt, math.MaxInt} {
			h.wantErr("Close", h.c.Close(bad), api.ErrArg)
		}
		h.wantNone(1)
		h.ok(h.c.Close(code), h.c.Close(code^1), h.c.Close(0))
		h.wantOver(0, false)
		h.wantOne(2, closing(code))
		h.wantOver(code, true)
		h.wantNone(3)
	}
}

// TestDone: of streams that were opened here.
func TestDone(t *testing.T) {
	h := newHand(t, 1, 0)
	h.open(0, 2)
	h.ok(h.c.Finish(1), h.c.Write(5, []byte("a")))
	h.says(1, stream(0, 0, "", true), reset(2, 0, 0, 0))
	h.wantTake(0, 9, "", recv.Fin, 0)
	for _, id := range []int{0, 1, 2, 5, 9, -1, math.MinInt, math.MaxInt} {
		h.wantDone(id, false)
	}
	h.wantOne(1, h.owed(), stream(1, 0, "", true), stream(5, 0, "a", false))
	h.says(2, upTo(0))
	for _, id := range []int{0, 1, 2, 5, 9, -1, math.MinInt, math.MaxInt} {
		h.wantDone(id, id == 1)
	}
}
