package conn_test

import (
	"bytes"
	"slices"
	"testing"

	"argosy/api"
	"argosy/conn"
	"argosy/frame"
	"argosy/packet"
	"argosy/seal"
)

const key = 0x1234567890abcdef

var ping = api.Frame{Kind: api.Ping}

func ack(runs ...[2]int) api.Frame { return api.Frame{Kind: api.Ack, Spans: runs} }

// upTo acknowledges 0 to n.
func upTo(n int) api.Frame { return ack([2]int{0, n}) }

func stream(id, off int, s string, fin bool) api.Frame {
	return api.Frame{Kind: api.Stream, ID: id, Off: off, Fin: fin, Data: []byte(s)}
}

func reset(id, code, end, sure int) api.Frame {
	return api.Frame{Kind: api.Reset, ID: id, A: code, Off: end, B: sure}
}

func stop(id, code int) api.Frame { return api.Frame{Kind: api.Stop, ID: id, A: code} }

func dataLimit(n int) api.Frame { return api.Frame{Kind: api.DataLimit, A: n} }

func streamLimit(id, n int) api.Frame { return api.Frame{Kind: api.StreamLimit, ID: id, A: n} }

func streamCount(n int, messages bool) api.Frame {
	return api.Frame{Kind: api.StreamCount, A: n, Fin: messages}
}

func datagram(s string) api.Frame { return api.Frame{Kind: api.Datagram, Data: []byte(s)} }

func got(id int) api.Frame { return api.Frame{Kind: api.Got, ID: id} }

func away(id int) api.Frame { return api.Frame{Kind: api.Away, ID: id} }

func closing(code int) api.Frame { return api.Frame{Kind: api.Close, A: code} }

func sameFrame(a, b api.Frame) bool {
	return a.Note == b.Note && frame.Same([]api.Frame{a}, []api.Frame{b})
}

// text is n bytes, told apart by their places.
func text(n int) string {
	b := make([]byte, n)
	for k := range b {
		b[k] = byte('a' + k*k%23 + k/97%4)
	}
	return string(b)
}

// hand plays the other end of c by hand, packet by packet.
type hand struct {
	t    *testing.T
	c    *conn.Conn
	who  int // c's
	num  int // the next packet that is said to c
	next int // the next packet that c sends
}

func newHand(t *testing.T, who, now int) *hand {
	return &hand{t: t, c: conn.New(who, key, now), who: who}
}

// lay is a packet of the other end.
func (h *hand) lay(num int, f ...api.Frame) []byte {
	h.t.Helper()
	b, e := packet.Lay(seal.Step(key, uint64(1-h.who)), num, max(num-100, -1), f...)
	if e != api.OK {
		h.t.Fatalf("6.1: Lay of %+v: %d", f, e)
	}
	return b
}

func (h *hand) try(now int, f ...api.Frame) api.Errno {
	h.t.Helper()
	h.num++
	return h.c.Receive(now, h.lay(h.num-1, f...))
}

func (h *hand) says(now int, f ...api.Frame) {
	h.t.Helper()
	if e := h.try(now, f...); e != api.OK {
		h.t.Fatalf("17.3: Receive of %+v: %d", f, e)
	}
}

// fails is a packet of which one frame fails: the end closes with that error.
func (h *hand) fails(now int, e api.Errno, f ...api.Frame) {
	h.t.Helper()
	if got := h.try(now, f...); got != e {
		h.t.Fatalf("17.3: Receive of %+v: %d, not %d", f, got, e)
	}
	h.wantOver(0, false)
	l := h.tick(now)
	if len(l) != 1 || !frame.Same(l[0][len(l[0])-1:], []api.Frame{closing(int(e))}) {
		h.t.Fatalf("17.3: a Close with %d: %+v", e, l)
	}
	h.wantOver(int(e), true)
}

// bring lets a stream's bytes from off on come.
func (h *hand) bring(now, id, off int, s string) {
	h.t.Helper()
	for len(s) > 0 {
		n := min(len(s), 100)
		h.says(now, stream(id, off, s[:n], false))
		off, s = off+n, s[n:]
	}
}

// owed is the Ack of all that was said.
func (h *hand) owed() api.Frame { return ack([2]int{max(0, h.num-1-64), h.num - 1}) }

// tick tells the frames of each packet, and holds that they are packets with the next numbers, laid with Acked of then.
func (h *hand) tick(now int) [][]api.Frame {
	h.t.Helper()
	var all [][]api.Frame
	for _, b := range h.c.Tick(now) {
		opens := seal.Step(key, uint64(h.who))
		num, f, e := packet.Read(opens, h.next, b)
		if e != api.OK || num != h.next || len(b) > api.MaxPacket {
			h.t.Fatalf("17.4: Tick at %d: packet %d, not %d, of %d bytes: %d", now, num, h.next, len(b), e)
		}
		if w, _ := packet.Lay(opens, num, h.c.Acked(), f...); !bytes.Equal(b, w) {
			h.t.Fatalf("17.4: Tick at %d: %x, not %x", now, b, w)
		}
		all = append(all, f)
		h.next++
	}
	if h.c.Next() != h.next {
		h.t.Fatalf("17.4: Tick at %d: %d were sent, not %d", now, h.c.Next(), h.next)
	}
	return all
}

// want holds all that Tick sends.
func (h *hand) want(now int, w ...[]api.Frame) {
	h.t.Helper()
	if l := h.tick(now); !slices.EqualFunc(l, w, frame.Same) {
		h.t.Fatalf("17.4: Tick at %d: %+v, not %+v", now, l, w)
	}
}

// wantOne holds the one packet that Tick sends.
func (h *hand) wantOne(now int, f ...api.Frame) {
	h.t.Helper()
	h.want(now, f)
}

func (h *hand) wantNone(now int) {
	h.t.Helper()
	h.want(now)
}

func (h *hand) wantOver(code int, over bool) {
	h.t.Helper()
	for range 2 {
		if c, o := h.c.Over(); c != code || o != over {
			h.t.Fatalf("17.1: Over: %d, %t, not %d, %t", c, o, code, over)
		}
	}
}

func (h *hand) wantTake(id, most int, s string, over, code int) {
	h.t.Helper()
	if b, o, c, e := h.c.Take(id, most); string(b) != s || o != over || c != code || e != api.OK {
		h.t.Fatalf("17.2: Take(%d, %d): %q, %d, %d, %d, not %q, %d, %d", id, most, b, o, c, e, s, over, code)
	}
}

func (h *hand) wantNotes(came, lost []int) {
	h.t.Helper()
	if c, l := h.c.Notes(); !slices.Equal(c, came) || !slices.Equal(l, lost) {
		h.t.Fatalf("17.2: Notes: %v, %v, not %v, %v", c, l, came, lost)
	}
}

func (h *hand) wantDatagrams(w ...string) {
	h.t.Helper()
	if l := h.c.Datagrams(); !slices.EqualFunc(l, w, func(b []byte, s string) bool { return string(b) == s }) {
		h.t.Fatalf("17.2: Datagrams: %q, not %q", l, w)
	}
}

func (h *hand) wantControls(w ...api.Frame) {
	h.t.Helper()
	if l := h.c.Controls(); !slices.EqualFunc(l, w, sameFrame) {
		h.t.Fatalf("17.2: Controls: %+v, not %+v", l, w)
	}
}

func (h *hand) wantStreams(w ...int) {
	h.t.Helper()
	for range 2 {
		if l := h.c.Streams(); !slices.Equal(l, w) {
			h.t.Fatalf("17.2: Streams: %v, not %v", l, w)
		}
	}
}

func (h *hand) wantDone(id int, w bool) {
	h.t.Helper()
	if h.c.Done(id) != w {
		h.t.Fatalf("17.2: Done(%d): %t", id, !w)
	}
}

// ok holds that calls of which nothing else is asked here are well.
func (h *hand) ok(l ...api.Errno) {
	h.t.Helper()
	for k, e := range l {
		if e != api.OK {
			h.t.Fatalf("17.2: call %d: %d", k, e)
		}
	}
}

func (h *hand) wantErr(what string, e, w api.Errno) {
	h.t.Helper()
	if e != w {
		h.t.Fatalf("17.2: %s: %d, not %d", what, e, w)
	}
}

func (h *hand) open(kind, n int) {
	h.t.Helper()
	for range n {
		if _, e := h.c.OpenStream(kind); e != api.OK {
			h.t.Fatalf("17.2: OpenStream(%d): %d", kind, e)
		}
	}
}

// crowd lets frames wait that take n bytes of a packet: it tells them. (n is 2 or more.)
func (h *hand) crowd(n int) []api.Frame {
	h.t.Helper()
	var l []api.Frame
	for n > 0 {
		id := 1
		if n == 3 {
			id = 100
		}
		h.ok(h.c.Control(api.Got, id))
		l = append(l, got(id))
		n -= frame.Size(got(id))
	}
	return l
}
