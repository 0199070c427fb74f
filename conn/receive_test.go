package conn_test

import (
	"bytes"
	"slices"
	"testing"

	"argosy/api"
	"argosy/frame"
	"argosy/packet"
	"argosy/recv"
	"argosy/seal"
)

// sealed is a packet of the other end of who, with these bytes in the place of frames.
func sealed(who, num int, body ...byte) []byte {
	head := []byte{64, byte(num)}
	return append(head, seal.Close(seal.Step(key, uint64(1-who)), num, head, body)...)
}

// scene is an end's play with packets laid by hand, at whose each step something else is done as well: what that does not change is as the plain end has it.
func scene(t *testing.T, also func(b *twin, now, num int)) {
	t.Helper()
	b := newTwin(t, 1, key, 0)
	num := 0
	says := func(now int, f ...api.Frame) {
		t.Helper()
		also(b, now, num)
		l, e := packet.Lay(seal.Step(key, 0), num, -1, f...)
		if e != api.OK || b.receive(now, l) != api.OK {
			t.Fatalf("17.3: packet %d at %d: %d", num, now, e)
		}
		num++
		also(b, now, num)
	}
	tick := func(now int) {
		t.Helper()
		also(b, now, num)
		b.tick(now)
	}
	tick(1)
	b.openStream(0)
	b.write(1, []byte(text(300)))
	b.finish(1)
	b.datagram(3, []byte("abc"))
	b.datagram(4, []byte("def"))
	b.control(api.Got, 5)
	tick(2)
	says(3, stream(0, 0, text(100), false), datagram("ghi"), got(1))
	tick(4)
	b.take(0, 60)
	says(5, ack([2]int{0, 1}), stream(0, 100, text(100), true), away(2))
	b.take(0, 200)
	b.news()
	tick(6)
	says(7, reset(6, 4, 30, 2), streamCount(8, true), dataLimit(1200))
	b.take(6, 9)
	b.drop(3)
	tick(20)
	tick(21)
	b.news()
	tick(306)
	tick(307)
	if _, over := b.c.Over(); !over {
		t.Fatal("17.4: the scene ends in silence")
	}
}

// junk is what is no packet of the other end of who, and the error of it.
func junk(who, num int) map[string]api.Errno {
	all := map[string]api.Errno{
		"": api.ErrShort, "\x00": api.ErrForm, "\x3f": api.ErrForm, "\x44": api.ErrForm, "\xff": api.ErrForm, "\x40": api.ErrShort, "\x43": api.ErrShort,
		"\x40\x00\x01\x02\x03\x04\x05\x06\x07": api.ErrShort, "\x40\x00\x01\x02\x03\x04\x05\x06\x07\x08": api.ErrSeal,
		"\x43\x00\x01\x02\x03\x04\x05\x06\x07\x08\x09\x0a": api.ErrShort, "\x43\x00\x01\x02\x03\x04\x05\x06\x07\x08\x09\x0a\x0b": api.ErrSeal,
		"no packet, not at all": api.ErrForm, "A packet, but for its seal": api.ErrSeal,
	}
	f := []api.Frame{datagram("new"), got(77), closing(3), stream(0, 0, "zzz", true)}
	own, _ := packet.Lay(seal.Step(key, uint64(who)), num, -1, f...)
	strange, _ := packet.Lay(seal.Step(key+1, uint64(1-who)), num, -1, f...)
	bare, _ := packet.Lay(key, num, -1, f...)
	all[string(own)], all[string(strange)], all[string(bare)] = api.ErrSeal, api.ErrSeal, api.ErrSeal
	good, _ := packet.Lay(seal.Step(key, uint64(1-who)), num, -1, f...)
	for k := 2; k < len(good); k++ {
		for _, by := range []byte{1, 0x80, 0xff} {
			b := bytes.Clone(good)
			b[k] ^= by
			all[string(b)] = api.ErrSeal
		}
	}
	b := bytes.Clone(good)
	b[1] ^= 4
	all[string(b)], all[string(good[:len(good)-1])], all[string(good)+"\x00"], all["\x41"+string(good[1:])] = api.ErrSeal, api.ErrSeal, api.ErrSeal, api.ErrSeal
	return all
}

// TestNoPacket: what does not open changes nothing.
func TestNoPacket(t *testing.T) {
	scene(t, func(b *twin, now, num int) {
		for s, w := range junk(1, num) {
			_, over := b.c.Over()
			if over {
				w = api.ErrGone
			}
			if e := b.c.Receive(now, []byte(s)); e != w {
				t.Fatalf("17.3: Receive of %x: %d, not %d", s, e, w)
			}
		}
		b.same("no packet")
	})
}

// TestSeenAgain: what came already changes nothing.
func TestSeenAgain(t *testing.T) {
	scene(t, func(b *twin, now, num int) {
		for k := range num {
			l, _ := packet.Lay(seal.Step(key, 0), k, -1, datagram("again"), got(78), stream(0, 0, "yyy", true), closing(4), ack([2]int{9, 9}))
			if e := b.c.Receive(now, l); e != api.ErrSeen {
				t.Fatalf("17.3: packet %d again: %d", k, e)
			}
		}
		b.same("packets again")
	})
}

// TestScene: the scene by itself.
func TestScene(t *testing.T) {
	scene(t, func(b *twin, now, num int) {})
}

// TestFarBehind: what is more than api.Seen behind the newest counts as seen.
func TestFarBehind(t *testing.T) {
	h := newHand(t, 0, 0)
	for _, x := range []struct {
		num int
		e   api.Errno
	}{{100, api.OK}, {36, api.OK}, {35, api.ErrSeen}, {0, api.ErrSeen}, {36, api.ErrSeen}, {37, api.OK}, {100, api.ErrSeen}, {101, api.OK}, {38, api.OK}, {36, api.ErrSeen}, {37, api.ErrSeen}} {
		if e := h.c.Receive(1, h.lay(x.num, got(x.num))); e != x.e {
			t.Fatalf("17.3: packet %d: %d, not %d", x.num, e, x.e)
		}
	}
	h.wantControls(got(100), got(36), got(37), got(101), got(38))
	h.wantOne(1, ack([2]int{100, 101}, [2]int{37, 38}))
}

// TestNextNumber: a cut number is the nearest to the one behind the newest.
func TestNextNumber(t *testing.T) {
	for _, x := range []struct {
		num int
		e   api.Errno
	}{{329, api.OK}, {330, api.ErrSeal}, {74, api.ErrSeen}, {73, api.ErrSeal}} {
		h := newHand(t, 0, 0)
		// Of one that saw nothing as well: 0 is awaited.
		for _, num := range []int{100, 200} {
			if e := h.c.Receive(1, h.lay(num, ping)); e != api.OK {
				t.Fatalf("17.3: packet %d: %d", num, e)
			}
		}
		// Cut to one byte: 201 and 128 above it, or 127 below it.
		b, _ := packet.Lay(seal.Step(key, 1), x.num, x.num-1, ping)
		if e := h.c.Receive(1, b); e != x.e {
			t.Fatalf("17.3: packet %d: %d, not %d", x.num, e, x.e)
		}
	}
	for num, w := range map[int]api.Errno{0: api.OK, 128: api.OK, 129: api.OK, 255: api.OK, 256: api.ErrSeal} {
		b, _ := packet.Lay(seal.Step(key, 1), num, num-1, ping)
		if e := newHand(t, 0, 0).c.Receive(1, b); e != w {
			t.Fatalf("17.3: packet %d as the first one: %d, not %d", num, e, w)
		}
	}
}

// TestNoFrames: what opens, but holds no frames, fails with ErrForm; it was not heard, nor seen.
func TestNoFrames(t *testing.T) {
	for _, body := range []string{"", "\x00", "\x0d", "\x3f", "\x0a", "\x01\x0a", "\x0a\x01\x09\x00", "\x0a\x01\x0a"} {
		h := newHand(t, 1, 0)
		b := sealed(1, 0, []byte(body)...)
		for range 2 {
			if e := h.c.Receive(200, b); e != api.ErrForm {
				t.Fatalf("17.3: %x as frames: %d", body, e)
			}
		}
		h.wantOver(0, false)
		h.wantControls()
		h.says(100, datagram("a"))
		h.wantDatagrams("a")
		if e := h.c.Receive(200, b); e != api.ErrForm {
			t.Fatalf("17.3: %x as frames of a packet that was seen: %d", body, e)
		}
		h.wantOne(399, h.owed(), closing(int(api.ErrForm)))
		h.wantOver(int(api.ErrForm), true)
	}
	h := newHand(t, 1, 0)
	if e := h.c.Receive(200, sealed(1, 0)); e != api.ErrForm {
		t.Fatalf("17.3: no frames: %d", e)
	}
	h.wantOne(299, closing(int(api.ErrForm)))
	h = newHand(t, 1, 0)
	h.c.Receive(200, sealed(1, 0))
	h.wantNone(300)
	h.wantOver(0, true)
	h = newHand(t, 1, 0)
	h.ok(h.c.Close(9))
	if e := h.c.Receive(2, sealed(1, 0)); e != api.ErrForm {
		t.Fatalf("17.3: no frames: %d", e)
	}
	h.wantOne(2, closing(9))
	h.wantOver(9, true)
}

// TestHeard: silence is reckoned from the last packet that was not seen yet, also from one that fails.
func TestHeard(t *testing.T) {
	for _, x := range []struct {
		f []api.Frame
		e api.Errno
	}{{[]api.Frame{ping}, api.OK}, {[]api.Frame{dataLimit(0)}, api.OK}, {[]api.Frame{stop(4, 0)}, api.ErrState}, {[]api.Frame{got(1), ack([2]int{0, 5})}, api.ErrForm}} {
		for last := range 2 {
			h := newHand(t, 0, -50)
			if e := h.try(100, x.f...); e != x.e {
				t.Fatalf("17.3: Receive of %+v: %d, not %d", x.f, e, x.e)
			}
			h.c.Receive(200, h.lay(0, ping))
			h.c.Receive(200, []byte("none"))
			h.tick(399 + last)
			if _, over := h.c.Over(); over != (last == 1 || x.e != api.OK) {
				t.Fatalf("17.3: heard at 100, at %d: %t", 399+last, over)
			}
			// At 399 it is not idle yet: what failed is said.
			if code, _ := h.c.Over(); code != int(x.e)*(1-last) {
				t.Fatalf("17.4: heard at 100, at %d: %d", 399+last, code)
			}
		}
	}
	// An Ack alone is heard as well; an earlier now counts as it is.
	h := newHand(t, 0, 0)
	h.ok(h.c.Control(api.Got, 1))
	h.wantOne(1, got(1))
	h.says(120, upTo(0))
	h.wantNone(419)
	h.wantOver(0, false)
	h.says(300, ping)
	h.says(20, ping)
	h.wantOne(319, h.owed())
	h.wantNone(320)
	h.wantOver(0, true)
}

// TestInOrder: the first frame that fails ends it; those ahead of it are done, those behind it are not.
func TestInOrder(t *testing.T) {
	for _, x := range []struct {
		f api.Frame
		e api.Errno
	}{
		{ack([2]int{1, 1}), api.ErrForm}, {stream(0, 0, "a", false), api.ErrState}, {stream(25, 0, "a", false), api.ErrLimit}, {stream(4<<40+5, 0, "a", false), api.ErrArg},
		{stream(1, 400, "a", false), api.ErrLimit}, {stream(5, 2, "", true), api.ErrFinal}, {reset(5, 0, 2, 0), api.ErrFinal}, {reset(2, 0, 0, 0), api.ErrState},
		{stop(1, 0), api.ErrState}, {streamLimit(5, 0), api.ErrState},
	} {
		for _, closes := range []bool{false, true} {
			h := newHand(t, 0, 0)
			h.open(0, 1)
			h.ok(h.c.Write(0, []byte("own")), h.c.Datagram(7, []byte("d")))
			h.wantOne(1, datagram("d"), stream(0, 0, "own", false))
			if closes {
				h.ok(h.c.Close(99))
			}
			all := []api.Frame{ping, got(1), upTo(0), stream(5, 0, "abc", false), datagram("x"), stop(0, 8), x.f, away(2), datagram("y"), stream(5, 3, "d", true), streamCount(9, false), closing(5), stop(9, 9)}
			if e := h.try(2, all...); e != x.e {
				t.Fatalf("17.3: %+v: %d, not %d", x.f, e, x.e)
			}
			h.wantOver(0, false)
			h.wantControls(got(1))
			h.wantDatagrams("x")
			h.wantTake(5, 9, "abc", 0, 0)
			h.wantNotes([]int{7}, nil)
			h.wantErr("Reset", h.c.Reset(0, 0, 0), api.ErrState)
			h.open(0, 5)
			if _, e := h.c.OpenStream(0); e != api.ErrLimit {
				t.Fatalf("17.3: a StreamCount behind what failed: %d", e)
			}
			// It was seen, and it was heard; what comes then is done yet.
			if e := h.c.Receive(3, h.lay(0, ping)); e != api.ErrSeen {
				t.Fatalf("17.3: what failed, again: %d", e)
			}
			h.says(3, got(4))
			h.wantControls(got(4))
			if e := h.try(3, x.f); e != x.e {
				t.Fatalf("17.3: %+v, again: %d", x.f, e)
			}
			if e := h.try(3, stop(1, 0)); e != api.ErrState {
				t.Fatalf("17.3: another failure: %d", e)
			}
			code := map[bool]int{false: int(x.e), true: 99}[closes]
			h.wantOne(4, h.owed(), closing(code))
			h.wantOver(code, true)
		}
	}
}

// TestAckOwed: of all that elicits there is an Ack, of Acks alone there is none.
func TestAckOwed(t *testing.T) {
	for _, f := range []api.Frame{ping, stream(1, 0, "a", false), reset(1, 0, 0, 0), stop(0, 1), dataLimit(1), streamLimit(0, 1), streamCount(1, false), datagram("a"), got(1), away(1)} {
		for _, l := range [][]api.Frame{{f}, {upTo(0), f}, {f, upTo(0)}} {
			h := newHand(t, 0, 0)
			h.open(0, 1)
			h.ok(h.c.Control(api.Got, 3))
			h.wantOne(1, got(3))
			h.says(1, upTo(0))
			h.wantNone(1)
			h.says(1, l...)
			p := h.tick(2)
			if len(p) != 1 || !frame.Same(p[0][:1], []api.Frame{upTo(1)}) {
				t.Fatalf("17.4: an Ack of %+v: %+v", l, p)
			}
			h.says(3, upTo(0))
			h.says(3, upTo(0), upTo(0))
			h.wantNone(3)
		}
	}
}

// TestAckNever: of what was never sent.
func TestAckNever(t *testing.T) {
	h := newHand(t, 0, 0)
	h.fails(1, api.ErrForm, upTo(0))
	for _, x := range []struct {
		f api.Frame
		e api.Errno
	}{{upTo(1), api.OK}, {upTo(2), api.ErrForm}, {ack([2]int{2, 2}), api.ErrForm}, {ack([2]int{7, 9}, [2]int{0, 1}), api.ErrForm}, {ack([2]int{api.Most, api.Most}, [2]int{0, 0}), api.ErrForm}} {
		h = newHand(t, 0, 0)
		h.open(0, 1)
		h.ok(h.c.Finish(0))
		h.wantOne(1, stream(0, 0, "", true))
		h.ok(h.c.Datagram(0, []byte("a")))
		h.wantOne(2, datagram("a"))
		if x.e == api.OK {
			h.says(3, x.f)
			h.says(3, x.f)
		} else {
			h.fails(3, x.e, x.f)
		}
		h.wantDone(0, x.e == api.OK)
		h.wantNotes([]int{0}[:map[api.Errno]int{api.OK: 1}[x.e]], nil)
	}
}

// TestAckTells: what came of a stream, of its Reset, of datagrams.
func TestAckTells(t *testing.T) {
	h := newHand(t, 0, 0)
	h.open(0, 2)
	h.open(1, 1)
	h.ok(h.c.Write(0, []byte("abc")), h.c.Write(4, []byte("defg")), h.c.Finish(4))
	h.wantOne(1, stream(0, 0, "abc", false), stream(4, 0, "defg", true))
	h.ok(h.c.Write(0, []byte("hi")), h.c.Finish(0), h.c.Write(2, []byte("jkl")))
	h.wantOne(2, stream(0, 3, "hi", true), stream(2, 0, "jkl", false))
	h.ok(h.c.Reset(2, 5, 1))
	h.wantOne(3, reset(2, 5, 3, 1))
	done := func(w ...int) {
		t.Helper()
		for _, id := range []int{0, 2, 4} {
			h.wantDone(id, slices.Contains(w, id))
		}
	}
	done()
	h.says(4, ack([2]int{1, 1}))
	done()
	h.says(4, ack([2]int{0, 0}))
	done(0, 4)
	h.says(4, ack([2]int{2, 2}))
	done(0, 2, 4)
	h.wantNone(5)
	// Only what was lost goes again: this one's Reset came, its byte did not.
	h = newHand(t, 0, 0)
	h.open(0, 1)
	h.ok(h.c.Write(0, []byte("abc")))
	h.wantOne(1, stream(0, 0, "abc", false))
	h.ok(h.c.Reset(0, 5, 1))
	h.wantOne(1, reset(0, 5, 3, 1))
	h.says(3, ack([2]int{1, 1}))
	done()
	h.wantOne(9, stream(0, 0, "a", false))
	done()
	h.says(10, ack([2]int{2, 2}))
	done(0)
}

// TestStreamBeyond: what a stream may bring.
func TestStreamBeyond(t *testing.T) {
	for _, x := range []struct {
		f []api.Frame
		e api.Errno
	}{
		{[]api.Frame{stream(1, 399, "a", false)}, api.OK},
		{[]api.Frame{stream(1, 400, "a", false)}, api.ErrLimit},
		{[]api.Frame{stream(1, 400, "", true)}, api.OK},
		{[]api.Frame{stream(1, 401, "", true)}, api.ErrLimit},
		{[]api.Frame{reset(1, 0, 400, 0)}, api.OK},
		{[]api.Frame{reset(1, 0, 401, 0)}, api.ErrLimit},
		{[]api.Frame{stream(21, 0, "a", false), reset(23, 0, 0, 0)}, api.OK},
		{[]api.Frame{stream(25, 0, "a", false)}, api.ErrLimit},
		{[]api.Frame{reset(27, 0, 0, 0)}, api.ErrLimit},
		{[]api.Frame{stream(4<<40+1, 0, "", false)}, api.ErrLimit},
		{[]api.Frame{stream(4<<40+5, 0, "", false)}, api.ErrArg},
		{[]api.Frame{reset(api.Most, 0, 0, 0)}, api.ErrArg},
		{[]api.Frame{stream(0, 0, "a", false)}, api.ErrState},
		{[]api.Frame{stream(4, 0, "a", false)}, api.ErrState},
		{[]api.Frame{reset(0, 0, 0, 0)}, api.ErrState},
		{[]api.Frame{reset(2, 0, 0, 0)}, api.ErrState},
		{[]api.Frame{stream(1, 0, "ab", true), stream(1, 2, "c", false)}, api.ErrFinal},
		{[]api.Frame{stream(1, 0, "ab", true), stream(1, 0, "a", true)}, api.ErrFinal},
		{[]api.Frame{stream(1, 0, "ab", true), reset(1, 0, 3, 0)}, api.ErrFinal},
		{[]api.Frame{stream(1, 0, "ab", true), reset(1, 0, 2, 0), stream(1, 0, "ab", true)}, api.OK},
		{[]api.Frame{reset(1, 0, 5, 3), stream(1, 4, "b", false), stream(1, 4, "b", true), reset(1, 1, 5, 2)}, api.OK},
		{[]api.Frame{reset(1, 0, 5, 3), stream(1, 5, "b", false)}, api.ErrFinal},
	} {
		h := newHand(t, 0, 0)
		h.open(0, 1)
		if x.e == api.OK {
			h.says(1, x.f...)
		} else {
			h.fails(1, x.e, x.f...)
		}
	}
}

// TestStreamTold: what a stream may bring goes up when that is told, not before.
func TestStreamTold(t *testing.T) {
	for _, told := range []bool{false, true} {
		for _, end := range []int{599, 600, 601} {
			h := newHand(t, 0, 0)
			h.bring(1, 1, 0, text(400))
			h.wantTake(1, 200, text(200), 0, 0)
			if told {
				h.wantOne(1, h.owed(), streamLimit(1, 600))
			}
			f := stream(1, end-100, text(100), false)
			if told && end <= 600 {
				h.says(2, f)
			} else {
				h.fails(2, api.ErrLimit, f)
			}
		}
	}
}

// TestCountsTold: likewise how many streams of a kind there may be.
func TestCountsTold(t *testing.T) {
	for kind := range 2 {
		for _, told := range []bool{false, true} {
			for n := 5; n < 11; n++ {
				h := newHand(t, 1, 0)
				id := func(n int) int { return 4*n + 2*kind }
				for k := range 3 {
					h.says(1, stream(id(k), 0, "", true))
					h.wantTake(id(k), 1, "", recv.Fin, 0)
				}
				if told {
					h.wantOne(1, h.owed(), streamCount(9, kind == 1))
				}
				if n < 6 || told && n < 9 {
					h.says(2, stream(id(n), 0, "a", false))
				} else {
					h.fails(2, api.ErrLimit, stream(id(n), 0, "a", false))
				}
			}
		}
	}
}

// TestGrantTold: likewise the bytes of all streams together.
func TestGrantTold(t *testing.T) {
	for _, told := range []bool{false, true} {
		for _, end := range []int{200, 201} {
			h := newHand(t, 0, 0)
			h.bring(1, 1, 0, text(400))
			h.bring(1, 5, 0, text(400))
			h.wantTake(1, 400, text(400), 0, 0)
			h.wantTake(5, 100, text(100), 0, 0)
			if told {
				h.wantOne(1, h.owed(), dataLimit(1500), streamLimit(1, 800))
			}
			if told || end <= 200 {
				h.says(2, reset(9, 0, end, 0))
			} else {
				h.fails(2, api.ErrLimit, reset(9, 0, end, 0))
			}
			if told {
				h.says(3, reset(13, 0, 400, 0), reset(17, 0, 299-end, 0), stream(3, 0, "a", false))
				h.fails(4, api.ErrLimit, stream(3, 1, "b", false))
			}
		}
	}
}

// TestFresh: each byte counts once, those up to an end too.
func TestFresh(t *testing.T) {
	h := newHand(t, 0, 0)
	for range 9 {
		// 400, as far as the greatest place.
		h.says(1, stream(1, 300, text(100), false), stream(1, 0, text(100), false))
		// 200, the last 100 of them by the end.
		h.says(1, stream(3, 0, text(100), false), reset(3, 7, 200, 100), reset(3, 8, 200, 0), stream(3, 100, text(100), true))
		// 398, by an end alone.
		h.says(1, stream(5, 398, "", true), stream(5, 0, text(100), false), stream(9, 1, "", false))
	}
	h.says(2, stream(9, 0, "a", false), stream(9, 0, "a", false), stream(9, 1, "b", true))
	h.says(2, stream(5, 100, text(100), false), stream(7, 0, "", true), stream(13, 0, "", false))
	h.fails(3, api.ErrLimit, stream(13, 0, "c", false))
}

// TestFreshFirst: what is beyond the stream's own limit fails with that, whatever the connection's is.
func TestFreshFirst(t *testing.T) {
	h := newHand(t, 0, 0)
	h.says(1, reset(1, 0, 400, 0), reset(5, 0, 400, 0), reset(9, 0, 200, 0))
	h.says(1, stream(9, 100, text(100), true), stream(13, 0, "", true))
	h.fails(2, api.ErrFinal, stream(9, 200, "a", false))
}

// TestStopped: a Stop resets, with no byte that is sure.
func TestStopped(t *testing.T) {
	h := newHand(t, 0, 0)
	h.open(0, 6)
	h.open(1, 1)
	h.ok(h.c.Write(0, []byte("abc")), h.c.Write(4, []byte("def")), h.c.Finish(4), h.c.Finish(8), h.c.Write(16, []byte("ghi")), h.c.Write(2, []byte("jkl")))
	h.wantOne(1, stream(0, 0, "abc", false), stream(2, 0, "jkl", false), stream(4, 0, "def", true), stream(8, 0, "", true), stream(16, 0, "ghi", false))
	h.ok(h.c.Reset(16, 5, 2), h.c.Write(20, []byte("mno")), h.c.Reset(2, 6, 0))
	h.wantOne(2, reset(2, 6, 3, 0), reset(16, 5, 3, 2), stream(20, 0, "mno", false))
	h.says(2, upTo(0))
	for _, id := range []int{4, 8} {
		h.wantDone(id, true)
	}
	// Done ones, and one that was reset with 0 bytes, stay as they are; one that was reset with 2 keeps its code.
	h.says(3, stop(0, api.Most), stop(2, 9), stop(4, 7), stop(8, 7), stop(12, 0), stop(16, 7), stop(20, 1))
	h.says(3, stop(0, 9), stop(12, 9), stop(16, 9))
	h.wantOne(4, h.owed(), reset(0, api.Most, 3, 0), reset(12, 0, 0, 0), reset(16, 5, 3, 0), reset(20, 1, 3, 0))
	for _, id := range []int{0, 2, 12, 16, 20} {
		h.wantErr("Write", h.c.Write(id, nil), api.ErrState)
	}
	h.says(5, upTo(2))
	h.wantNone(5)
	for _, id := range []int{0, 2, 4, 8, 12, 16, 20} {
		h.wantDone(id, true)
	}
}

// TestStopFinished: a finished one that is not Done yet is reset as well.
func TestStopFinished(t *testing.T) {
	h := newHand(t, 1, 0)
	h.open(1, 1)
	h.ok(h.c.Write(3, []byte(text(150))), h.c.Finish(3))
	h.wantOne(1, stream(3, 0, text(120), false), stream(3, 120, text(150)[120:], true))
	h.says(1, stop(3, 44))
	h.wantOne(2, h.owed(), reset(3, 44, 150, 0))
}

// TestNotOwn: a Stop, a StreamLimit of a stream that was not opened here.
func TestNotOwn(t *testing.T) {
	for who := range 2 {
		for _, id := range []int{1 - who, 5 - who, 3 - who, 7 - who, 4 + who, 8 + who, 6 + who, 21 - who, api.Most, api.Most - 1} {
			for _, f := range []api.Frame{stop(id, 0), streamLimit(id, 900)} {
				h := newHand(t, who, 0)
				h.open(0, 1)
				h.open(1, 1)
				h.says(1, stream(5-who, 0, "a", false), streamLimit(who, 0), streamLimit(2+who, 0))
				h.fails(1, api.ErrState, f)
			}
		}
	}
}

// TestStreamLimit: how far a stream may go.
func TestStreamLimit(t *testing.T) {
	h := newHand(t, 0, 0)
	h.c.Size = 32
	h.open(0, 1)
	h.open(1, 1)
	h.ok(h.c.Write(0, []byte(text(450))), h.c.Write(2, []byte(text(420))))
	sum := map[int]int{}
	tick := func(now int) {
		t.Helper()
		for _, l := range h.tick(now) {
			for _, f := range l {
				if f.Kind == api.Stream {
					sum[f.ID] += len(f.Data)
				}
			}
		}
	}
	for k, x := range []struct{ f, zero, two int }{{0, 400, 400}, {400, 400, 400}, {399, 400, 400}, {401, 401, 400}, {3, 401, 400}, {430, 430, 400}, {api.Most, 450, 400}} {
		if k > 0 {
			h.says(2, streamLimit(0, x.f))
		}
		tick(1 + k/3)
		if sum[0] != x.zero || sum[2] != x.two {
			t.Fatalf("17.3: a StreamLimit of %d: %v", x.f, sum)
		}
	}
	h.says(3, streamLimit(2, 410))
	tick(3)
	if sum[0] != 450 || sum[2] != 410 {
		t.Fatalf("17.3: a StreamLimit of the other one: %v", sum)
	}
}

// TestLesser: what grants less than was granted changes nothing.
func TestLesser(t *testing.T) {
	h := newHand(t, 0, 0)
	h.says(1, streamCount(2, false), streamCount(0, true))
	h.open(0, 6)
	h.open(1, 6)
	h.ok(h.c.Write(0, []byte("ab")), h.c.Write(4, []byte("cd")))
	h.wantOne(1, h.owed(), stream(0, 0, "ab", false), stream(4, 0, "cd", false))
	for _, n := range []int{0, 2, 3, 5} {
		h.says(2, streamLimit(0, n), dataLimit(n))
	}
	h.ok(h.c.Write(0, []byte("efg")), h.c.Write(4, []byte("hij")))
	h.wantOne(2, h.owed(), stream(0, 2, "efg", false), stream(4, 2, "hij", false))
	h.says(3, streamLimit(0, 500), streamLimit(0, 450), dataLimit(1100), dataLimit(1050))
	h.c.Size = 32
	for _, id := range []int{0, 4, 8, 2} {
		h.ok(h.c.Write(id, []byte(text(600))))
	}
	sum := map[int]int{0: 5, 4: 5}
	for range 3 {
		for _, l := range h.tick(3) {
			for _, f := range l {
				sum[f.ID] += len(f.Data)
			}
		}
	}
	if sum[0] != 500 || sum[2] != 400 || sum[4] != 200 || sum[8] != 0 {
		t.Fatalf("17.3: %v bytes go", sum)
	}
}

// TestStreamCount: how many streams may be opened.
func TestStreamCount(t *testing.T) {
	h := newHand(t, 0, 0)
	h.open(0, 6)
	h.open(1, 6)
	counts := [2]int{6, 6}
	for _, x := range []struct {
		n    int
		kind int
	}{{7, 0}, {5, 0}, {0, 1}, {7, 0}, {9, 1}, {8, 1}, {0, 0}, {8, 0}, {10, 1}} {
		h.says(1, streamCount(x.n, x.kind == 1))
		for kind := range 2 {
			n := 0
			if kind == x.kind {
				n = max(0, x.n-counts[kind])
			}
			h.open(kind, n)
			counts[kind] += n
			if _, e := h.c.OpenStream(kind); e != api.ErrLimit {
				t.Fatalf("17.3: %d streams of kind %d behind %+v: %d", counts[kind]+1, kind, x, e)
			}
		}
	}
	h.says(1, streamCount(api.Most, false))
	h.open(0, 50)
}

// TestPing: nothing.
func TestPing(t *testing.T) {
	h := newHand(t, 0, 0)
	h.says(1, ping, ping)
	h.wantDatagrams()
	h.wantControls()
	h.wantNotes(nil, nil)
	h.wantStreams()
	h.wantOver(0, false)
	h.wantOne(1, h.owed())
}

// TestCloseCame: it is over with that code; what is ahead in the packet is done, what is behind is not.
func TestCloseCame(t *testing.T) {
	for _, code := range []int{0, 6, api.Most} {
		for _, own := range []bool{false, true} {
			h := newHand(t, 1, 0)
			if own {
				h.ok(h.c.Close(code ^ 1))
			}
			h.says(1, got(1), stream(0, 0, "a", false), closing(code), got(2), datagram("b"), stream(0, 1, "c", true), ack([2]int{7, 7}), closing(code^2))
			h.wantOver(code, true)
			h.wantControls(got(1))
			h.wantDatagrams()
			h.wantTake(0, 9, "a", 0, 0)
			h.wantNone(2)
			h.wantOver(code, true)
			h.wantErr("Receive", h.try(2, got(3)), api.ErrGone)
		}
	}
	// What fails ahead of it: it is not over.
	h := newHand(t, 1, 0)
	h.fails(1, api.ErrState, stop(0, 0), closing(77))
}
