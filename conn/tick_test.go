package conn_test

import (
	"math"
	"slices"
	"testing"

	"argosy/api"
	"argosy/frame"
	"argosy/packet"
	"argosy/recv"
)

// ackAll is an Ack of all that c sent.
func (h *hand) ackAll(now int) {
	h.t.Helper()
	h.says(now, ack([2]int{max(0, h.next-30), h.next - 1}))
}

// left lets frames wait until so many bytes are left in the next packet: it tells what stands ahead in it, the Ack that is owed too.
func (h *hand) left(n int, owed bool) []api.Frame {
	h.t.Helper()
	room := packet.Room(h.c.Next(), h.c.Acked()) - n
	var l []api.Frame
	if owed {
		l = append(l, h.owed())
		room -= frame.Size(h.owed())
	}
	return append(l, h.crowd(room)...)
}

// spend lets n streams of a kind come from number first on, each with so many bytes that are never taken; all that is due by that is said, and acknowledged.
func (h *hand) spend(now, kind, first, n, size int) {
	h.t.Helper()
	for k := range n {
		id := 4*(first+k) + 2*kind + 1 - h.who
		h.says(now, reset(id, 0, size, 0))
		h.wantTake(id, 9, "", recv.Broken, 0)
		h.tick(now)
		h.ackAll(now)
	}
}

// pour lets n bytes of a stream come, and be taken; likewise.
func (h *hand) pour(now, id, n int) {
	h.t.Helper()
	for at := 0; at < n; at += 100 {
		s := text(min(100, n-at))
		h.says(now, stream(id, at, s, false))
		h.wantTake(id, 100, s, 0, 0)
		h.tick(now)
		h.ackAll(now)
	}
}

// TestNothing: where there is nothing to say.
func TestNothing(t *testing.T) {
	h := newHand(t, 0, 0)
	h.open(0, 2)
	h.ok(h.c.Write(0, nil))
	for now := range 9 {
		h.wantNone(now)
	}
	h.ok(h.c.Write(4, []byte("a")))
	h.wantOne(9, stream(4, 0, "a", false))
	h.wantNone(10)
	h.says(11, upTo(0))
	for now := 11; now < 300; now += 17 {
		h.wantNone(now)
	}
	h.wantOver(0, false)
}

// TestIdle: over at Idle ticks, not one tick sooner.
func TestIdle(t *testing.T) {
	for _, start := range []int{-1000, -300, -299, -1, 0, 1, 77, math.MinInt, math.MaxInt - 300} {
		for _, last := range []int{300, 301, 999, math.MaxInt} {
			h := newHand(t, 0, start)
			h.wantNone(start + 299)
			h.wantOver(0, false)
			h.ok(h.c.Control(api.Got, 1), h.c.Datagram(0, []byte("a")), h.c.Close(5))
			end := start + last
			if end < start {
				end = math.MaxInt
			}
			h.wantNone(end)
			h.wantOver(0, true)
			h.wantNone(start)
			h.wantOver(0, true)
		}
	}
	// A clock that goes back is none that stood still.
	for _, now := range []int{math.MinInt, -1, 0, math.MaxInt - 1, math.MaxInt} {
		h := newHand(t, 0, math.MaxInt)
		h.ok(h.c.Control(api.Got, 1))
		h.wantOne(now, got(1))
		h.wantOver(0, false)
	}
	// Heard.
	for _, at := range []int{1, 299, 300, 500} {
		h := newHand(t, 1, 0)
		h.says(at, ping)
		h.wantOne(at+299, h.owed())
		h.wantOver(0, false)
		h.says(at+299, got(1))
		h.wantOne(at+300, h.owed())
		h.wantNone(at + 598)
		h.wantOver(0, false)
		h.wantNone(at + 599)
		h.wantOver(0, true)
	}
}

// TestIdleAlone: an end that is over by silence does nothing else then: what is under way is not lost.
func TestIdleAlone(t *testing.T) {
	h := newHand(t, 0, 0)
	h.ok(h.c.Datagram(5, []byte("a")), h.c.Control(api.Got, 1))
	h.wantOne(1, got(1), datagram("a"))
	h.wantNone(300)
	h.wantOver(0, true)
	h.wantNotes(nil, nil)
	if h.c.Flight() != 1 || h.c.Back != 0 {
		t.Fatalf("17.4: an end that is over: %+v", h.c.Path)
	}
	// One tick sooner it is.
	h = newHand(t, 0, 0)
	h.ok(h.c.Datagram(5, []byte("a")))
	h.wantOne(1, datagram("a"))
	h.wantOne(299, ping)
	h.wantNotes(nil, []int{5})
}

// TestOrder: all that goes into a packet.
func TestOrder(t *testing.T) {
	h := newHand(t, 0, 0)
	h.open(0, 3)
	h.open(1, 1)
	c := h.c
	h.ok(c.Write(0, []byte("abc")), c.Write(2, []byte("de")))
	h.wantOne(1, stream(0, 0, "abc", false), stream(2, 0, "de", false))
	h.bring(1, 13, 0, text(250))
	h.bring(1, 15, 0, text(260))
	h.says(1, stream(1, 0, "", true), stream(3, 0, "", true), stream(5, 0, "", true), stream(7, 0, "", true), stream(9, 0, "", true), stream(11, 0, "", true))
	// Whatever the order in which it was asked for.
	h.ok(c.Write(8, []byte("hi")), c.Finish(8), c.Reset(2, 6, 1), c.Write(4, []byte("fg")), c.Write(0, []byte("z")), c.Finish(0))
	h.ok(c.Datagram(4, []byte("dd")), c.Datagram(2, []byte("e")))
	for _, id := range []int{15, 13} {
		h.wantTake(id, 999, text(map[int]int{13: 250, 15: 260}[id]), 0, 0)
	}
	for _, id := range []int{11, 7, 3, 9, 5, 1} {
		h.wantTake(id, 1, "", recv.Fin, 0)
	}
	h.ok(c.Control(api.Away, 8), c.Stop(13, 3), c.Control(api.Got, 7))
	h.wantOne(2, h.owed(), away(8), stop(13, 3), got(7), dataLimit(1510), streamCount(9, false), streamCount(9, true), streamLimit(13, 650), streamLimit(15, 660),
		datagram("dd"), datagram("e"), stream(0, 3, "z", true), reset(2, 6, 2, 1), stream(4, 0, "fg", false), stream(8, 0, "hi", true))
	h.wantNone(3)
}

// TestTurnFirst: of each stream its Reset, then its bytes; what is sure goes ahead of the Reset.
func TestTurnFirst(t *testing.T) {
	h := newHand(t, 0, 0)
	h.open(0, 2)
	c := h.c
	h.ok(c.Write(0, []byte(text(200))), c.Write(4, []byte("abc")))
	h.ok(c.Reset(0, 7, 150), c.Reset(4, 8, 2))
	h.want(1, []api.Frame{stream(0, 0, text(120), false), stream(0, 120, text(150)[120:], false), stream(4, 0, "ab", false)}, []api.Frame{reset(0, 7, 150, 150), reset(4, 8, 2, 2)})
	// All of it is lost: the Reset, of which the top stays, is ahead.
	h.want(9, []api.Frame{reset(0, 7, 150, 150), stream(0, 0, text(120), false), stream(0, 120, text(150)[120:], false), reset(4, 8, 2, 2), stream(4, 0, "ab", false)})
}

// TestWaitingCut: the first of those that wait that does not go in ends them, and nothing else.
func TestWaitingCut(t *testing.T) {
	for n := 3; n < 9; n++ {
		h := newHand(t, 0, 0)
		l := h.left(n, false)
		h.ok(h.c.Control(api.Got, api.Most), h.c.Control(api.Away, 1), h.c.Datagram(0, []byte("a")))
		h.want(1, append(l, datagram("a")), []api.Frame{got(api.Most), away(1)})
	}
	for id := 0; id < 4; id += 2 {
		h := newHand(t, 0, 0)
		h.open(id/2, 1)
		l := h.left(8, false)
		h.ok(h.c.Control(api.Got, api.Most), h.c.Control(api.Away, 1), h.c.Write(id, []byte("abcd")))
		h.want(1, append(l, stream(id, 0, "abc", false)), []api.Frame{got(api.Most), away(1), stream(id, 3, "d", false)})
	}
	h := newHand(t, 0, 0)
	l := h.left(9, false)
	h.ok(h.c.Control(api.Got, api.Most), h.c.Control(api.Away, 1), h.c.Datagram(0, []byte("a")))
	h.want(1, append(l, got(api.Most)), []api.Frame{away(1), datagram("a")})
}

// TestDataLimitCut: where a DataLimit does not go in, a StreamCount may.
func TestDataLimitCut(t *testing.T) {
	h := newHand(t, 0, 0)
	h.spend(1, 0, 0, 40, 400)
	h.says(1, reset(161, 0, 400, 0), reset(165, 0, 400, 0), reset(169, 0, 200, 0))
	for _, id := range []int{161, 165, 169} {
		h.wantTake(id, 1, "", recv.Broken, 0)
	}
	l := h.left(4, true)
	h.want(2, append(l, streamCount(49, false)), []api.Frame{dataLimit(18000)})
	h.wantNone(3)
}

// TestStreamCountCut: where a StreamCount of the one kind does not go in, one of the other may.
func TestStreamCountCut(t *testing.T) {
	h := newHand(t, 1, 0)
	h.spend(1, 0, 0, 60, 0)
	h.says(1, reset(240, 0, 0, 0), reset(244, 0, 0, 0), reset(248, 0, 0, 0), reset(2, 0, 0, 0), reset(6, 0, 0, 0), reset(10, 0, 0, 0))
	for _, id := range []int{240, 244, 248, 2, 6, 10} {
		h.wantTake(id, 1, "", recv.Broken, 0)
	}
	l := h.left(3, true)
	h.want(2, append(l, streamCount(9, true)), []api.Frame{streamCount(69, false)})
	h.wantNone(3)
}

// TestStreamLimitCut: the first StreamLimit that does not go in ends them, and nothing else.
func TestStreamLimitCut(t *testing.T) {
	for n := 3; n < 6; n++ {
		h := newHand(t, 0, 0)
		h.pour(1, 1, 16200)
		h.bring(1, 1, 16200, text(200))
		h.bring(1, 5, 0, text(200))
		// The connection's is not due with that: 500 were told of late.
		h.wantTake(5, 999, text(200), 0, 0)
		h.wantOne(1, h.owed(), streamLimit(5, 600))
		h.wantTake(1, 999, text(200), 0, 0)
		h.wantOne(1, dataLimit(17600), streamLimit(1, 16800))
		h.bring(1, 1, 16400, text(220))
		h.bring(1, 5, 200, text(210))
		h.wantTake(1, 999, text(220), 0, 0)
		h.wantTake(5, 999, text(210), 0, 0)
		h.ok(h.c.Datagram(0, []byte("a")))
		l := h.left(n, true)
		h.want(2, append(l, datagram("a")), []api.Frame{streamLimit(1, 17020), streamLimit(5, 810)})
	}
}

// TestDatagramCut: the first datagram that does not go in ends them, and nothing else.
func TestDatagramCut(t *testing.T) {
	for _, n := range []int{6, 7, 20, 21} {
		h := newHand(t, 0, 0)
		h.open(0, 1)
		h.ok(h.c.Datagram(0, []byte(text(20))), h.c.Datagram(0, []byte("a")), h.c.Write(0, []byte("b")))
		l := h.left(n, false)
		h.want(1, append(l, stream(0, 0, "b", false)), []api.Frame{datagram(text(20)), datagram("a")})
	}
	h := newHand(t, 0, 0)
	h.ok(h.c.Datagram(0, []byte(text(20))), h.c.Datagram(0, []byte("a")))
	l := h.left(22, false)
	h.want(1, append(l, datagram(text(20))), []api.Frame{datagram("a")})
}

// TestTurnCut: a Reset that does not go in ends the streams of this packet, and is yet to be told.
func TestTurnCut(t *testing.T) {
	for n := 6; n < 12; n++ {
		h := newHand(t, 0, 0)
		h.open(0, 3)
		h.ok(h.c.Write(0, []byte("a")), h.c.Write(4, []byte("b")), h.c.Write(8, []byte("c")))
		h.wantOne(1, stream(0, 0, "a", false), stream(4, 0, "b", false), stream(8, 0, "c", false))
		h.ok(h.c.Reset(4, api.Most, 1), h.c.Write(8, []byte("d")), h.c.Datagram(0, []byte("e")))
		l := h.left(n+3, false)
		h.want(2, append(l, datagram("e")), []api.Frame{reset(4, api.Most, 1, 1), stream(8, 1, "d", false)})
		h.wantNone(3)
	}
	h := newHand(t, 0, 0)
	h.open(0, 2)
	h.ok(h.c.Reset(0, api.Most, 0), h.c.Write(4, []byte("b")))
	l := h.left(18, false)
	h.want(1, append(l, reset(0, api.Most, 0, 0), stream(4, 0, "b", false)))
}

// TestTurnCutAgain: one that went, was lost, and does not go in then, is yet to be told as well; so is one of fewer bytes.
func TestTurnCutAgain(t *testing.T) {
	h := newHand(t, 0, 0)
	h.open(0, 1)
	h.ok(h.c.Write(0, []byte("ab")))
	h.wantOne(1, stream(0, 0, "ab", false))
	h.ok(h.c.Reset(0, api.Most, 2))
	h.wantOne(1, reset(0, api.Most, 2, 2))
	l := h.left(11, false)
	h.want(9, l, []api.Frame{reset(0, api.Most, 2, 2), stream(0, 0, "ab", false)})
	h.says(10, upTo(h.next-1))
	h.wantDone(0, true)
	h = newHand(t, 0, 0)
	h.open(0, 1)
	h.ok(h.c.Write(0, []byte("ab")))
	h.wantOne(1, stream(0, 0, "ab", false))
	h.ok(h.c.Reset(0, api.Most, 2))
	h.wantOne(1, reset(0, api.Most, 2, 2))
	h.ok(h.c.Reset(0, 0, 1))
	l = h.left(11, false)
	h.want(2, l, []api.Frame{reset(0, api.Most, 2, 1)})
	h.says(3, upTo(1))
	h.wantDone(0, false)
	h.says(3, upTo(3))
	h.wantDone(0, true)
}

// TestNextsCut: a stream that has none that goes in is left, and those behind it go on.
func TestNextsCut(t *testing.T) {
	h := newHand(t, 0, 0)
	h.open(0, 3)
	h.ok(h.c.Write(0, []byte(text(70))))
	h.wantOne(1, stream(0, 0, text(70), false))
	h.ok(h.c.Write(0, []byte("a")), h.c.Write(4, []byte("bcd")), h.c.Write(8, []byte("e")))
	l := h.left(6, false)
	h.want(2, append(l, stream(4, 0, "b", false)), []api.Frame{stream(0, 70, "a", false), stream(4, 1, "cd", false), stream(8, 0, "e", false)})
}

// TestNexts: as many frames as go in, each as long as goes in.
func TestNexts(t *testing.T) {
	h := newHand(t, 0, 0)
	h.open(0, 2)
	h.ok(h.c.Write(0, []byte(text(330))), h.c.Write(4, []byte(text(90))), h.c.Finish(4))
	s := text(330)
	h.want(1, []api.Frame{stream(0, 0, s[:120], false), stream(0, 120, s[120:217], false)}, []api.Frame{stream(0, 217, s[217:], false), stream(4, 0, text(90), true)})
	// Lost bytes, then what was never sent; a Fin alone.
	h.ok(h.c.Write(0, []byte("xyz")))
	h.wantOne(2, stream(0, 330, "xyz", false))
	h.ok(h.c.Finish(0))
	h.says(3, ack([2]int{1, 1}))
	h.wantOne(3, stream(0, 333, "", true))
	h.says(4, ack([2]int{3, 3}))
	h.want(4, []api.Frame{stream(0, 0, s[:120], false), stream(0, 120, s[120:217], false)}, []api.Frame{stream(0, 330, "xyz", true)})
}

// TestCreditOfLost: what was lost goes again, whatever the credit; only fresh bytes are Used.
func TestCreditOfLost(t *testing.T) {
	h := newHand(t, 0, 0)
	h.c.Size = 32
	h.open(0, 3)
	for id := 0; id < 12; id += 4 {
		h.ok(h.c.Write(id, []byte(text(400))))
	}
	fresh := func(all [][]api.Frame) (n int) {
		for _, l := range all {
			for _, f := range l {
				n += len(f.Data)
			}
		}
		return n
	}
	if n := fresh(h.tick(1)) + fresh(h.tick(1)); n != 1000 {
		t.Fatalf("17.4: %d bytes go", n)
	}
	if n := fresh(h.tick(9)) + fresh(h.tick(9)); n != 1000 || h.c.Back != 1 {
		t.Fatalf("17.4: %d bytes go again", n)
	}
	h.wantNone(10)
	h.says(11, dataLimit(1150))
	if n := fresh(h.tick(11)); n != 150 {
		t.Fatalf("17.4: %d bytes go behind a DataLimit", n)
	}
	h.wantNone(12)
}

// TestBurst: at most Burst packets a Tick, however open the Path is.
func TestBurst(t *testing.T) {
	h := newHand(t, 0, 0)
	h.c.Size = 32
	l := h.crowd(230)
	for range 8 {
		h.crowd(230)
	}
	h.want(1, l, l, l, l)
	h.want(2, l, l, l, l)
	h.wantOne(3, l...)
	h.wantNone(4)
	// Of an Ack in the first one alone.
	h.says(5, ping)
	h.crowd(226)
	for range 4 {
		h.crowd(230)
	}
	h.want(5, append([]api.Frame{h.owed()}, l[2:]...), l, l, l)
	h.wantOne(6, l...)
}

// TestWindow: no more than may be under way.
func TestWindow(t *testing.T) {
	h := newHand(t, 0, 0)
	l := h.crowd(230)
	for range 19 {
		h.crowd(230)
	}
	h.want(1, l, l, l, l)
	h.wantNone(2)
	// Two came: two more may be under way than were.
	h.says(3, upTo(1))
	h.want(3, l, l, l, l)
	h.wantNone(3)
	h.says(4, ack([2]int{0, 2}))
	h.want(4, l, l)
	h.says(4, ack([2]int{3, 7}))
	h.want(4, l, l, l, l)
	h.want(4, l, l, l, l)
	h.want(4, l, l)
	h.wantNone(4)
}

// TestNotOpen: where the Path isn't open, an Ack alone goes.
func TestNotOpen(t *testing.T) {
	h := newHand(t, 0, 0)
	h.open(0, 2)
	c := h.c
	h.ok(c.Write(0, []byte("a")))
	h.wantOne(1, stream(0, 0, "a", false))
	c.Size = 1
	h.says(1, stream(1, 0, "", true), stream(5, 0, "", true), stream(9, 0, "", true))
	h.bring(1, 13, 0, text(400))
	h.bring(1, 17, 0, text(100))
	for _, id := range []int{1, 5, 9} {
		h.wantTake(id, 1, "", recv.Fin, 0)
	}
	h.wantTake(13, 400, text(400), 0, 0)
	h.wantTake(17, 100, text(100), 0, 0)
	h.ok(c.Control(api.Got, 3), c.Datagram(4, []byte("b")), c.Write(4, []byte("c")), c.Reset(0, 2, 0))
	h.wantOne(2, h.owed())
	h.wantNone(3)
	h.says(3, got(1))
	h.wantOne(3, h.owed())
	h.says(3, upTo(0))
	// The window is one more: two packets, of which nothing is left for the second one.
	h.wantOne(4, got(3), dataLimit(1500), streamCount(9, false), streamLimit(13, 800), datagram("b"), reset(0, 2, 1, 0), stream(4, 0, "c", false))
	h.wantNone(4)
}

// TestProbe: all that is under way is lost; the first packet goes, however shut the Path is.
func TestProbe(t *testing.T) {
	h := newHand(t, 0, 0)
	l := h.crowd(230)
	h.wantOne(1, l...)
	h.c.Size = 0
	h.crowd(230)
	h.wantNone(8)
	// Those that wait go ahead of those that were lost.
	h.ok(h.c.Control(api.Away, 5), h.c.Control(api.Away, 6), h.c.Control(api.Away, 7))
	h.wantOne(9, l...)
	h.wantNone(9)
	if h.c.Back != 1 || h.c.Wait() != 16 || h.c.Flight() != 1 {
		t.Fatalf("17.4: behind a probe: %+v", h.c.Path)
	}
	h.wantNone(24)
	h.c.Size = 1
	h.wantOne(25, append([]api.Frame{away(5), away(6), away(7)}, l[:112]...)...)
	h.c.Size = 2
	h.wantOne(26, append(l[112:], l[:112]...)...)
	h.wantNone(27)
	h.c.Size = 9
	h.wantOne(28, l[:3]...)
	h.wantNone(56)
	h.c.Size = 2
	h.want(57, append([]api.Frame{away(5), away(6), away(7)}, l[:112]...), l)
	h.says(58, ack([2]int{h.next - 2, h.next - 1}))
	h.c.Size = 2
	h.wantOne(58, l[:3]...)
}

// TestPingProbe: a Ping, where nothing else in the first packet would elicit.
func TestPingProbe(t *testing.T) {
	h := newHand(t, 0, 0)
	h.ok(h.c.Datagram(0, []byte("a")))
	h.wantOne(1, datagram("a"))
	h.wantNone(8)
	h.wantOne(9, ping)
	h.wantNone(24)
	h.says(24, ping)
	h.wantOne(25, h.owed(), ping)
	h.wantNone(56)
	h.ok(h.c.Datagram(0, []byte("b")))
	h.wantOne(57, datagram("b"))
	// The wait is MaxWait at most.
	h.says(60, dataLimit(9))
	h.ok(h.c.Control(api.Got, 1))
	h.wantOne(89, h.owed(), got(1))
	h.says(90, upTo(h.next-1))
	h.wantNone(200)
	h.wantNotes(nil, []int{0, 0})
	// Of an Ack alone there is no probe.
	h.says(201, ping)
	h.wantOne(201, h.owed())
	h.wantNone(400)
}

// TestAckLost: an Ack that was lost is not said again, until it is owed again.
func TestAckLost(t *testing.T) {
	h := newHand(t, 0, 0)
	h.says(1, got(1))
	h.ok(h.c.Control(api.Got, 2))
	h.wantOne(1, h.owed(), got(2))
	h.wantOne(9, got(2))
	h.says(10, got(3))
	h.wantOne(10, h.owed())
	h.wantNone(11)
}

// TestAckSpans: the greatest runs of what came, as many as an Ack has.
func TestAckSpans(t *testing.T) {
	h := newHand(t, 0, 0)
	for num := 0; num < 40; num += 2 {
		if e := h.c.Receive(1, h.lay(num, ping)); e != api.OK {
			t.Fatalf("17.3: packet %d: %d", num, e)
		}
	}
	var runs [][2]int
	for k := range 8 {
		runs = append(runs, [2]int{38 - 2*k, 38 - 2*k})
	}
	h.wantOne(1, ack(runs...))
	h.wantNone(1)
}

// TestLost: what a probe finds lost goes again: bytes, Fin, Reset, Stop, Got and Away.
func TestLost(t *testing.T) {
	h := newHand(t, 0, 0)
	h.open(0, 2)
	h.open(1, 1)
	c := h.c
	h.says(1, stream(1, 0, "x", false))
	h.ok(c.Write(0, []byte("abc")), c.Write(4, []byte("de")), c.Finish(4), c.Write(2, []byte("fgh")), c.Control(api.Got, 1), c.Stop(1, 7), c.Control(api.Away, 2))
	h.wantOne(1, h.owed(), got(1), stop(1, 7), away(2), stream(0, 0, "abc", false), stream(2, 0, "fgh", false), stream(4, 0, "de", true))
	h.ok(c.Reset(2, 9, 1), c.Control(api.Away, 3), c.Datagram(5, []byte("i")))
	h.wantOne(2, away(3), datagram("i"), reset(2, 9, 3, 1))
	h.ok(c.Control(api.Got, 4), c.Write(0, []byte("jk")))
	h.wantOne(9, got(4), got(1), stop(1, 7), away(2), away(3), stream(0, 0, "abc", false), stream(0, 3, "jk", false), reset(2, 9, 3, 1), stream(2, 0, "f", false), stream(4, 0, "de", true))
	h.wantNotes(nil, []int{5})
	h.wantNone(10)
	h.says(11, ack([2]int{2, 2}))
	h.wantDone(2, true)
	h.wantDone(4, true)
	h.wantNotes(nil, nil)
	h.wantNone(300)
}

// TestLostTwice: what came in the meantime by another packet does not go again.
func TestLostTwice(t *testing.T) {
	h := newHand(t, 0, 0)
	h.open(0, 1)
	h.ok(h.c.Write(0, []byte("abc")), h.c.Finish(0), h.c.Control(api.Got, 1))
	h.wantOne(1, got(1), stream(0, 0, "abc", true))
	h.wantOne(9, got(1), stream(0, 0, "abc", true))
	// Packet 0 is out no more: it tells nothing, but that the Path is so far.
	h.says(10, upTo(0))
	h.wantDone(0, false)
	h.wantNone(10)
	h.wantOne(25, got(1), stream(0, 0, "abc", true))
	h.says(26, ack([2]int{2, 2}))
	h.wantDone(0, true)
	h.wantNone(299)
}

// TestLateAndProbe: what is late is lost ahead of what a probe finds.
func TestLateAndProbe(t *testing.T) {
	h := newHand(t, 0, 0)
	c := h.c
	c.Size = 32
	for k := range 7 {
		h.ok(c.Control(api.Got, k), c.Datagram(k, []byte{byte(k)}))
		h.wantOne(1, got(k), datagram(string(rune(k))))
	}
	h.says(3, ack([2]int{4, 4}))
	h.wantNotes([]int{4}, nil)
	// 0 and 1 are 3 behind.
	h.wantOne(3, got(0), got(1))
	h.wantNotes(nil, []int{0, 1})
	if c.Size != 16 || c.Till != 7 || c.Back != 0 {
		t.Fatalf("17.4: behind what was late: %+v", c.Window)
	}
	// Then, at once: 2 and 3 are late, 5, 6 and 7 are of a probe. What is late is no new loss of the window.
	h.ok(c.Control(api.Away, 9))
	h.wantOne(20, away(9), got(2), got(3), got(5), got(6), got(0), got(1))
	h.wantNotes(nil, []int{2, 3, 5, 6})
	if c.Size != 16 || c.Back != 1 || c.Flight() != 1 {
		t.Fatalf("17.4: behind a probe: %+v", c.Path)
	}
}

// TestLateWindow: what is late halves the window; what a probe finds does not.
func TestLateWindow(t *testing.T) {
	h := newHand(t, 0, 0)
	for k := range 4 {
		h.ok(h.c.Control(api.Got, k))
		h.wantOne(1, got(k))
	}
	h.says(2, ack([2]int{2, 2}))
	// Round is 1: 0 and 1 are late at 3, and so is 3 for a probe at 4.
	h.wantNone(2)
	h.wantOne(4, got(0), got(1), got(3))
	if h.c.Size != 2 || h.c.Till != 4 || h.c.Back != 1 {
		t.Fatalf("17.4: %+v", h.c.Path)
	}
}

// TestLimitsAgain: limits that are lost are said again, as they are then.
func TestLimitsAgain(t *testing.T) {
	h := newHand(t, 0, 0)
	h.bring(1, 1, 0, text(400))
	h.bring(1, 5, 0, text(300))
	h.says(1, stream(9, 0, "", true), stream(13, 0, "", true), stream(17, 0, "", true), stream(3, 0, "", true), stream(7, 0, "", true), stream(11, 0, "", true), stream(21, 0, "", true), stream(15, 0, "", true))
	h.wantTake(1, 300, text(300), 0, 0)
	h.wantTake(5, 200, text(200), 0, 0)
	for _, id := range []int{9, 13, 17, 3, 7, 11} {
		h.wantTake(id, 1, "", recv.Fin, 0)
	}
	h.wantOne(1, h.owed(), dataLimit(1500), streamCount(9, false), streamCount(9, true), streamLimit(1, 700), streamLimit(5, 600))
	h.wantNone(2)
	// Less than is due by itself.
	h.wantTake(1, 60, text(360)[300:], 0, 0)
	h.wantTake(5, 1, text(201)[200:], 0, 0)
	h.wantTake(21, 1, "", recv.Fin, 0)
	h.wantTake(15, 1, "", recv.Fin, 0)
	h.wantNone(3)
	h.wantOne(9, dataLimit(1561), streamCount(10, false), streamCount(10, true), streamLimit(1, 760), streamLimit(5, 601))
	h.wantNone(10)
	// Once more: of one that is ended in the meantime nothing.
	h.says(11, stream(5, 300, "", true))
	h.wantOne(11, h.owed())
	h.wantOne(25, dataLimit(1561), streamCount(10, false), streamCount(10, true), streamLimit(1, 760))
	h.says(26, ack([2]int{h.next - 1, h.next - 1}))
	h.wantNone(300)
	// What was told is told: so far may come.
	h.says(301, stream(1, 759, "a", false))
	h.fails(301, api.ErrLimit, stream(1, 760, "b", false))
}

// TestOneLimitAgain: each of them by itself.
func TestOneLimitAgain(t *testing.T) {
	for k, w := range []api.Frame{dataLimit(1500), streamCount(9, false), streamCount(9, true), streamLimit(1, 600), streamLimit(5, 600)} {
		h := newHand(t, 0, 0)
		switch k {
		case 0:
			h.says(1, reset(1, 0, 400, 0), reset(5, 0, 100, 0))
			h.wantTake(1, 1, "", recv.Broken, 0)
			h.wantTake(5, 1, "", recv.Broken, 0)
		case 1, 2:
			for n := range 3 {
				id := 4*n + 2*k - 1
				h.says(1, stream(id, 0, "", true))
				h.wantTake(id, 1, "", recv.Fin, 0)
			}
		default:
			h.bring(1, 5, 0, text(199))
			h.bring(1, 1, 0, text(199))
			h.bring(1, 4*k-11, 199, "a")
			h.wantTake(5, 199, text(199), 0, 0)
			h.wantTake(1, 199, text(199), 0, 0)
			h.wantTake(4*k-11, 9, "a", 0, 0)
		}
		h.wantOne(1, h.owed(), w)
		h.wantNone(2)
		h.wantOne(9, w)
		h.wantNone(10)
		h.wantOne(25, w)
		h.says(26, upTo(h.next-1))
		h.wantNone(299)
	}
}

// TestAgainCut: a limit that is due again, and does not go in, is due again yet.
func TestAgainCut(t *testing.T) {
	h := newHand(t, 0, 0)
	h.bring(1, 1, 0, text(200))
	h.wantTake(1, 200, text(200), 0, 0)
	h.wantOne(1, h.owed(), streamLimit(1, 600))
	l := h.left(3, false)
	h.want(9, l, []api.Frame{streamLimit(1, 600)})
	h.wantNone(10)
}

// TestStreamLimits: of streams that are not ended, rising, whatever their kind.
func TestStreamLimits(t *testing.T) {
	h := newHand(t, 1, 0)
	h.spend(1, 0, 0, 1, 0)
	for k, id := range []int{14, 4, 2, 8} {
		h.bring(1, id, 0, text(200))
		if k == 2 {
			h.says(1, stream(id, 200, "", true))
		}
		if id == 8 {
			h.says(1, reset(id, 3, 300, 250))
		}
		h.wantTake(id, 999, text(200), map[bool]int{true: recv.Fin}[k == 2], 0)
	}
	h.wantOne(2, h.owed(), dataLimit(1800), streamLimit(4, 600), streamLimit(14, 600))
	h.wantNone(3)
}

// TestClosingTick: an end that is closing sends its Close, with an Ack that is owed, and nothing else; then it is over.
func TestClosingTick(t *testing.T) {
	for _, owed := range []bool{false, true} {
		for _, shut := range []bool{false, true} {
			h := newHand(t, 0, 0)
			h.open(0, 1)
			h.ok(h.c.Datagram(6, []byte("z")))
			h.wantOne(1, datagram("z"))
			h.ok(h.c.Write(0, []byte("a")), h.c.Datagram(1, []byte("b")), h.c.Control(api.Got, 1), h.c.Close(api.Most))
			if shut {
				h.c.Size = 0
			}
			w := []api.Frame{closing(api.Most)}
			if owed {
				h.says(2, ping)
				w = []api.Frame{h.owed(), closing(api.Most)}
			}
			h.wantOver(0, false)
			// A probe as well.
			h.wantOne(9, w...)
			h.wantOver(api.Most, true)
			h.wantNotes(nil, []int{6})
			if h.c.Back != 1 || h.c.Flight() != 0 || h.c.Next() != 2 {
				t.Fatalf("17.4: closing: %+v", h.c.Path)
			}
			h.wantNone(10)
		}
	}
}

// TestSent: what goes is Put into the Path with its Notes, at now.
func TestSent(t *testing.T) {
	h := newHand(t, 0, 0)
	h.open(0, 1)
	h.ok(h.c.Write(0, []byte("a")), h.c.Datagram(7, []byte("b")), h.c.Datagram(-7, []byte("c")))
	h.wantOne(5, datagram("b"), datagram("c"), stream(0, 0, "a", false))
	h.says(6, ping)
	h.wantOne(6, h.owed())
	l := h.c.Ledger.Take()
	if len(l) != 2 || l[0].Num != 0 || l[0].At != 5 || !l[0].Elicits || l[1].Num != 1 || l[1].At != 6 || l[1].Elicits {
		t.Fatalf("17.4: what was sent: %+v", l)
	}
	w := []api.Frame{{Kind: api.Datagram, Note: 7, Data: []byte("b")}, {Kind: api.Datagram, Note: -7, Data: []byte("c")}, stream(0, 0, "a", false)}
	if !slices.EqualFunc(l[0].Frames, w, sameFrame) || !frame.Same(l[1].Frames, []api.Frame{h.owed()}) {
		t.Fatalf("17.4: what was sent: %+v", l)
	}
}

// TestLongNumbers: a packet's number takes what Acked() of then asks for, and its frames the rest.
func TestLongNumbers(t *testing.T) {
	h := newHand(t, 0, 0)
	h.c.Size = 1000
	for k := range 300 {
		h.ok(h.c.Control(api.Got, k))
		h.wantOne(1, got(k))
	}
	// Two bytes, as nothing was acknowledged.
	h.crowd(229)
	l := h.tick(1)
	if len(l) != 1 || len(l[0]) != 114 {
		t.Fatalf("17.4: %d packets, of %d frames", len(l), len(l[0]))
	}
	h.crowd(230)
	h.crowd(230)
	l = h.tick(1)
	if len(l) != 3 || len(l[0]) != 114 || len(l[1]) != 114 {
		t.Fatalf("17.4: %d packets", len(l))
	}
	// One byte again.
	h.says(1, ack([2]int{h.next - 1, h.next - 1}))
	h.c.Size = 1000
	h.c.Ledger.Take()
	w := h.crowd(230)
	h.wantOne(1, w...)
}

// TestOtherTimes: a now that is earlier than another one counts as it is.
func TestOtherTimes(t *testing.T) {
	h := newHand(t, 0, 100)
	h.ok(h.c.Control(api.Got, 1))
	h.wantOne(50, got(1))
	h.ok(h.c.Control(api.Got, 2))
	h.wantOne(40, got(2))
	h.wantNone(57)
	h.wantOne(58, got(1), got(2))
}
