package conn_test

import (
	"bytes"
	"slices"
	"testing"

	"argosy/acks"
	"argosy/api"
	"argosy/cong"
	"argosy/conn"
	"argosy/frame"
	"argosy/packet"
	"argosy/path"
	"argosy/queue"
	"argosy/rtt"
	"argosy/seal"
	"argosy/send"
	"argosy/table"
)

// plain is an end as the chapter words it, in plain lists and numbers over the layers below.
type plain struct {
	who         int
	key         uint64
	path        *path.Path
	table       *table.Table
	seen        *acks.Seen
	heard       int
	limit, used int // the credit
	read, told  int // the grant
	fresh       int // bytes of all streams that came
	waits       []api.Frame
	queue       []queue.Item
	again       []api.Frame // limits that are due again, as frames that grant 0
	overs       []int       // streams of which over was told
	datagrams   [][]byte
	controls    []api.Frame
	came, lost  []int
	closing     bool
	over        bool
	code        int
}

func newPlain(who int, key uint64, now int) *plain {
	return &plain{who: who, key: key, path: path.New(), table: table.New(who), seen: acks.New(), heard: now, limit: 1000, told: 1000}
}

func wrong(n int) bool { return n < 0 || n > api.Most }

func (p *plain) open(kind int) (int, api.Errno) {
	if p.over {
		return 0, api.ErrGone
	}
	return p.table.Open(kind)
}

// mine is what a call of a stream that was opened here answers.
func (p *plain) mine(id int, call func(*send.Stream) api.Errno) api.Errno {
	if p.over {
		return api.ErrGone
	}
	if s, ok := p.table.Mine(id); ok {
		return call(s)
	}
	return api.ErrNone
}

func (p *plain) stop(id, code int) api.Errno {
	if p.over {
		return api.ErrGone
	}
	if _, ok := p.table.Has(id); !ok {
		return api.ErrNone
	}
	if wrong(code) {
		return api.ErrArg
	}
	p.waits = append(p.waits, stop(id, code))
	return api.OK
}

func (p *plain) take(id, most int) ([]byte, int, int, api.Errno) {
	s, ok := p.table.Has(id)
	if !ok {
		return nil, 0, 0, api.ErrNone
	}
	b, over, code := s.Take(most)
	p.read += len(b)
	if over != 0 && !slices.Contains(p.overs, id) {
		p.overs = append(p.overs, id)
		p.read += s.Rest()
		p.table.Counts((id / 2) % 2).Eat(1)
	}
	return b, over, code, api.OK
}

func (p *plain) datagram(note int, b []byte) api.Errno {
	switch {
	case p.over:
		return api.ErrGone
	case len(b) < 1 || len(b) > 116:
		return api.ErrArg
	case len(p.queue) == 32:
		return api.ErrFull
	}
	p.queue = append(p.queue, queue.Item{Note: note, Data: bytes.Clone(b)})
	return api.OK
}

func (p *plain) drop(notes ...int) int {
	if p.over {
		return 0
	}
	var left []queue.Item
	for _, x := range p.queue {
		if !slices.Contains(notes, x.Note) {
			left = append(left, x)
		}
	}
	gone := len(p.queue) - len(left)
	p.queue = left
	return gone
}

func (p *plain) control(kind, id int) api.Errno {
	switch {
	case p.over:
		return api.ErrGone
	case kind != api.Got && kind != api.Away || wrong(id):
		return api.ErrArg
	}
	p.waits = append(p.waits, api.Frame{Kind: kind, ID: id})
	return api.OK
}

func (p *plain) close(code int) api.Errno {
	switch {
	case p.over:
		return api.ErrGone
	case wrong(code):
		return api.ErrArg
	}
	p.closes(code)
	return api.OK
}

func (p *plain) closes(code int) {
	if !p.closing {
		p.closing, p.code = true, code
	}
}

func (p *plain) done(id int) bool {
	s, ok := p.table.Mine(id)
	return ok && s.Done()
}

func (p *plain) receive(now int, b []byte) api.Errno {
	if p.over {
		return api.ErrGone
	}
	num, l, e := packet.Read(seal.Step(p.key, uint64(1-p.who)), p.seen.Newest()+1, b)
	if e == api.ErrNone {
		p.closes(int(api.ErrForm))
		return api.ErrForm
	}
	if e != api.OK {
		return e
	}
	if !p.seen.Note(num, frame.Elicits(l...)) {
		return api.ErrSeen
	}
	p.heard = now
	for _, f := range l {
		if e := p.does(now, f); e != api.OK {
			p.closes(int(e))
			return e
		}
		if f.Kind == api.Close {
			p.over, p.code = true, f.A
			return api.OK
		}
	}
	return api.OK
}

func (p *plain) does(now int, f api.Frame) api.Errno {
	s, mine := p.table.Mine(f.ID)
	switch f.Kind {
	case api.Ack:
		l, e := p.path.Heard(f.Spans, now)
		if e != api.OK {
			return e
		}
		for _, one := range l {
			p.arrives(one)
		}
	case api.Stream, api.Reset:
		return p.brings(f)
	case api.Stop, api.StreamLimit:
		if !mine {
			return api.ErrState
		}
		if f.Kind == api.Stop {
			s.Reset(f.A, 0)
		} else {
			s.Raise(f.A)
		}
	case api.DataLimit:
		p.limit = max(p.limit, f.A)
	case api.StreamCount:
		kind := 0
		if f.Fin {
			kind = 1
		}
		p.table.Raise(kind, f.A)
	case api.Datagram:
		p.datagrams = append(p.datagrams, f.Data)
	case api.Got, api.Away:
		p.controls = append(p.controls, f)
	}
	return api.OK
}

func (p *plain) arrives(f api.Frame) {
	if f.Kind == api.Stream || f.Kind == api.Reset {
		s, _ := p.table.Mine(f.ID)
		s.Acked(f)
	}
	if f.Kind == api.Datagram && f.Note >= 0 {
		p.came = append(p.came, f.Note)
	}
}

func (p *plain) brings(f api.Frame) api.Errno {
	s, e := p.table.Theirs(f.ID)
	if e != api.OK {
		return e
	}
	top := s.Top()
	if f.Kind == api.Stream {
		_, e = s.Put(f.Off, f.Fin, f.Data)
	} else {
		_, e = s.Break(f.A, f.Off, f.B)
	}
	p.fresh += s.Top() - top
	if e == api.OK && p.fresh > p.told {
		return api.ErrLimit
	}
	return e
}

func (p *plain) misses(f api.Frame) {
	switch f.Kind {
	case api.Stream, api.Reset:
		s, _ := p.table.Mine(f.ID)
		s.Lost(f)
	case api.DataLimit, api.StreamLimit, api.StreamCount:
		p.again = append(p.again, api.Frame{Kind: f.Kind, ID: f.ID, Fin: f.Fin})
	case api.Stop, api.Got, api.Away:
		p.waits = append(p.waits, f)
	case api.Datagram:
		if f.Note >= 0 {
			p.lost = append(p.lost, f.Note)
		}
	}
}

// tick tells the frames of each packet.
func (p *plain) tick(now int) [][]api.Frame {
	if p.over {
		return nil
	}
	if now-p.heard >= 300 {
		p.over, p.code = true, 0
		return nil
	}
	for _, f := range p.path.Late(now) {
		p.misses(f)
	}
	l, probes := p.path.Probe(now)
	for _, f := range l {
		p.misses(f)
	}
	var all [][]api.Frame
	for k := range 4 {
		f := p.packs(k == 0, k == 0 && probes)
		if len(f) == 0 {
			break
		}
		p.path.Send(now, f...)
		all = append(all, f)
		if len(f) == 1 && f[0].Kind == api.Ack || p.over {
			break
		}
	}
	return all
}

// pack is a packet that is being filled.
type pack struct {
	l    []api.Frame
	left int
}

func (k *pack) puts(f api.Frame) bool {
	if frame.Size(f) > k.left {
		return false
	}
	k.l = append(k.l, f)
	k.left -= frame.Size(f)
	return true
}

func (p *plain) packs(first, probes bool) []api.Frame {
	k := &pack{left: packet.Room(p.path.Next(), p.path.Acked())}
	if first && p.seen.Owed {
		f, _ := p.seen.Frame()
		k.puts(f)
		p.seen.Told()
	}
	if p.closing {
		k.puts(closing(p.code))
		p.over = true
		return k.l
	}
	if p.path.Open() || probes {
		for len(p.waits) > 0 && k.puts(p.waits[0]) {
			p.waits = p.waits[1:]
		}
		p.putLimits(k)
		for len(p.queue) > 0 && k.puts(api.Frame{Kind: api.Datagram, Note: p.queue[0].Note, Data: p.queue[0].Data}) {
			p.queue = p.queue[1:]
		}
		p.putStreams(k)
	}
	if probes && !slices.ContainsFunc(k.l, func(f api.Frame) bool { return f.Kind != api.Ack }) {
		k.puts(ping)
	}
	return k.l
}

// isAgain tells whether that limit is due again.
func (p *plain) isAgain(f api.Frame) bool {
	return slices.ContainsFunc(p.again, func(x api.Frame) bool { return frame.Same([]api.Frame{x}, []api.Frame{f}) })
}

// saysAgain is for a limit that was said: it is due again no more.
func (p *plain) saysAgain(f api.Frame) {
	p.again = slices.DeleteFunc(p.again, func(x api.Frame) bool { return frame.Same([]api.Frame{x}, []api.Frame{f}) })
}

func (p *plain) putLimits(k *pack) {
	if x := dataLimit(0); p.read+1000-p.told >= 500 || p.isAgain(x) {
		if k.puts(dataLimit(p.read + 1000)) {
			p.told = p.read + 1000
			p.saysAgain(x)
		}
	}
	for kind := range 2 {
		x, g := streamCount(0, kind == 1), p.table.Counts(kind)
		if n, due := g.Due(); due || p.isAgain(x) {
			if k.puts(streamCount(n, kind == 1)) {
				g.Tell()
				p.saysAgain(x)
			}
		}
	}
	for _, id := range p.table.Recvs() {
		s, _ := p.table.Has(id)
		x := streamLimit(id, 0)
		if n, due := s.Due(); !s.Ended() && (due || p.isAgain(x)) {
			if !k.puts(streamLimit(id, n)) {
				break
			}
			s.Tell()
			p.saysAgain(x)
		}
	}
}

func (p *plain) putStreams(k *pack) {
	for _, id := range p.table.Sends() {
		s, _ := p.table.Mine(id)
		// On a copy: what does not go in was not told.
		try := *s
		if f, ok := try.Turn(); ok {
			if !k.puts(f) {
				return
			}
			s.Turn()
		}
		for {
			f, fresh, ok := s.Next(k.left, p.limit-p.used)
			if !ok {
				break
			}
			k.puts(f)
			p.used += fresh
		}
	}
}

// told is all that an end answers to those calls of its Path, and to Over, that change nothing.
type told struct {
	over                        bool
	code                        int
	next, acked, flight, oldest int
	some, open                  bool
	rtt                         rtt.Rtt
	window                      cong.Window
}

func ask(code int, over bool, p *path.Path) told {
	at, some := p.Oldest()
	return told{over, code, p.Next(), p.Acked(), p.Flight(), at, some, p.Open(), p.Rtt, p.Window}
}

// twin is an end and a plain one, to which the same is done.
type twin struct {
	t   *testing.T
	c   *conn.Conn
	w   *plain
	log *bytes.Buffer
	// failed: a frame failed. What that one did of its own is not asked.
	failed bool
}

func newTwin(t *testing.T, who int, key uint64, now int) *twin {
	b := &twin{t: t, c: conn.New(who, key, now), w: newPlain(who, key, now), log: &bytes.Buffer{}}
	b.same("New")
	return b
}

// same holds all that may be asked and changes nothing.
func (b *twin) same(what string) {
	b.t.Helper()
	code, over := b.c.Over()
	wcode := 0
	if b.w.over {
		wcode = b.w.code
	}
	if x, w := ask(code, over, &b.c.Path), ask(wcode, b.w.over, b.w.path); x != w {
		b.t.Fatalf("17: behind %s: %+v, not %+v", what, x, w)
	}
	if l, w := b.c.Streams(), b.w.table.Recvs(); !b.failed && !slices.Equal(l, w) {
		b.t.Fatalf("17.2: Streams behind %s: %v, not %v", what, l, w)
	}
	for id := range 40 {
		if d, w := b.c.Done(id), b.w.done(id); d != w {
			b.t.Fatalf("17.2: Done(%d) behind %s: %t", id, what, d)
		}
	}
}

func (b *twin) err(what string, e, w api.Errno) {
	b.t.Helper()
	if e != w {
		b.t.Fatalf("17: %s: %d, not %d", what, e, w)
	}
	b.log.WriteByte(byte(e))
	b.same(what)
}

func (b *twin) openStream(kind int) {
	b.t.Helper()
	id, e := b.c.OpenStream(kind)
	wid, we := b.w.open(kind)
	if id != wid {
		b.t.Fatalf("17.2: OpenStream(%d): %d, not %d", kind, id, wid)
	}
	b.err("OpenStream", e, we)
}

func (b *twin) write(id int, l []byte) {
	b.t.Helper()
	b.err("Write", b.c.Write(id, l), b.w.mine(id, func(s *send.Stream) api.Errno { return s.Write(l) }))
}

func (b *twin) finish(id int) {
	b.t.Helper()
	b.err("Finish", b.c.Finish(id), b.w.mine(id, func(s *send.Stream) api.Errno { return s.Finish() }))
}

func (b *twin) reset(id, code, sure int) {
	b.t.Helper()
	b.err("Reset", b.c.Reset(id, code, sure), b.w.mine(id, func(s *send.Stream) api.Errno { return s.Reset(code, sure) }))
}

func (b *twin) stop(id, code int) {
	b.t.Helper()
	b.err("Stop", b.c.Stop(id, code), b.w.stop(id, code))
}

func (b *twin) take(id, most int) ([]byte, int) {
	b.t.Helper()
	l, over, code, e := b.c.Take(id, most)
	wl, wover, wcode, we := b.w.take(id, most)
	if !bytes.Equal(l, wl) || over != wover || code != wcode {
		b.t.Fatalf("17.2: Take(%d, %d): %q, %d, %d, not %q, %d, %d", id, most, l, over, code, wl, wover, wcode)
	}
	b.log.Write(l)
	b.err("Take", e, we)
	return l, over
}

func (b *twin) datagram(note int, l []byte) {
	b.t.Helper()
	b.err("Datagram", b.c.Datagram(note, l), b.w.datagram(note, l))
}

func (b *twin) drop(notes ...int) {
	b.t.Helper()
	if n, w := b.c.Drop(notes...), b.w.drop(notes...); n != w {
		b.t.Fatalf("17.2: Drop(%v): %d, not %d", notes, n, w)
	}
	b.same("Drop")
}

func (b *twin) control(kind, id int) {
	b.t.Helper()
	b.err("Control", b.c.Control(kind, id), b.w.control(kind, id))
}

func (b *twin) close(code int) {
	b.t.Helper()
	b.err("Close", b.c.Close(code), b.w.close(code))
}

// news holds all that came since the last call.
func (b *twin) news() {
	b.t.Helper()
	if l := b.c.Datagrams(); !slices.EqualFunc(l, b.w.datagrams, bytes.Equal) {
		b.t.Fatalf("17.2: Datagrams: %q, not %q", l, b.w.datagrams)
	}
	if l := b.c.Controls(); !slices.EqualFunc(l, b.w.controls, sameFrame) {
		b.t.Fatalf("17.2: Controls: %+v, not %+v", l, b.w.controls)
	}
	came, lost := b.c.Notes()
	if !slices.Equal(came, b.w.came) || !slices.Equal(lost, b.w.lost) {
		b.t.Fatalf("17.2: Notes: %v, %v, not %v, %v", came, lost, b.w.came, b.w.lost)
	}
	for _, n := range slices.Concat(came, lost) {
		b.log.WriteByte(byte(n))
	}
	b.w.datagrams, b.w.controls, b.w.came, b.w.lost = nil, nil, nil, nil
	b.same("Notes")
}

func (b *twin) receive(now int, l []byte) api.Errno {
	b.t.Helper()
	e, w := b.c.Receive(now, l), b.w.receive(now, l)
	b.failed = b.failed || w != api.OK && w != api.ErrSeen && w != api.ErrGone
	b.err("Receive", e, w)
	return e
}

// tick holds the packets byte by byte.
func (b *twin) tick(now int) [][]byte {
	b.t.Helper()
	num := b.w.path.Next()
	l, w := b.c.Tick(now), b.w.tick(now)
	for k, f := range w {
		want, e := packet.Lay(seal.Step(b.w.key, uint64(b.w.who)), num+k, b.w.path.Acked(), f...)
		if e != api.OK {
			b.t.Fatalf("17.4: Tick at %d: no packet: %+v: %d", now, f, e)
		}
		if k >= len(l) || !bytes.Equal(l[k], want) {
			b.t.Fatalf("17.4: Tick at %d: packet %d of %d is not %+v", now, k, len(l), f)
		}
	}
	if len(l) != len(w) {
		b.t.Fatalf("17.4: Tick at %d: %d packets, not %d", now, len(l), len(w))
	}
	for _, one := range l {
		b.log.Write(one)
	}
	b.same("Tick")
	return l
}
