package conn

import (
	"argosy/api"
	"argosy/credit"
	"argosy/frame"
	"argosy/packet"
	"argosy/send"
)

func (c *Conn) Tick(now int) [][]byte {
	if c.gone {
		return nil
	}
	if silent(c.heard, now) {
		c.end(0)
		return nil
	}
	probes := c.lose(now)
	var packets [][]byte
	for len(packets) < api.Burst {
		f := c.fill(probes && len(packets) == 0)
		if len(f) > 0 {
			packets = append(packets, c.pack(now, f))
		}
		// Nothing, an Ack alone, a Close: there is no more to say.
		if !frame.Elicits(f...) {
			break
		}
	}
	return packets
}

// silent tells whether nothing was heard for Idle ticks, also where the two lie further apart than an int tells.
func silent(heard, now int) bool {
	return now >= heard && uint(now)-uint(heard) >= api.Idle
}

// lose finds out what is lost, and tells whether it probes.
func (c *Conn) lose(now int) bool {
	for _, f := range c.Late(now) {
		c.missed(f)
	}
	rest, probes := c.Probe(now)
	for _, f := range rest {
		c.missed(f)
	}
	return probes
}

// missed is for a frame that was sent, and is lost.
func (c *Conn) missed(f api.Frame) {
	switch f.Kind {
	case api.Stream, api.Reset:
		if s, ok := c.table.Mine(f.ID); ok {
			s.Lost(f)
		}
	case api.DataLimit, api.StreamLimit, api.StreamCount:
		c.again[about(f)] = struct{}{}
	case api.Stop, api.Got, api.Away:
		c.wait(f)
	case api.Datagram:
		if f.Note >= 0 {
			c.lost = append(c.lost, f.Note)
		}
	}
}

// fill tells the frames of the next packet: none, if there is nothing to say.
func (c *Conn) fill(probes bool) []api.Frame {
	l := load{room: packet.Room(c.Next(), c.Acked())}
	// An Ack always goes into the first one, so that behind it none is owed.
	if c.seen.Owed {
		c.putAck(&l)
	}
	switch {
	case c.closing:
		l.put(api.Frame{Kind: api.Close, A: c.code})
		c.end(c.code)
	case c.Open() || probes:
		c.putAll(&l)
		if probes && !frame.Elicits(l.frames...) {
			l.put(api.Frame{Kind: api.Ping})
		}
	}
	return l.frames
}

func (c *Conn) pack(now int, f []api.Frame) []byte {
	num := c.Send(now, f...)
	// What fill tells is right, and not longer than the room.
	b, _ := packet.Lay(c.seals, num, c.Acked(), f...)
	return b
}

func (c *Conn) putAck(l *load) {
	if f, ok := c.seen.Frame(); ok && l.put(f) {
		c.seen.Told()
	}
}

// putAll puts row by row: one that has no more room is left, and those behind it go on.
func (c *Conn) putAll(l *load) {
	c.putWaiting(l)
	c.putLimit(l, &c.grant, api.Frame{Kind: api.DataLimit})
	c.putLimit(l, c.table.Counts(0), api.Frame{Kind: api.StreamCount})
	c.putLimit(l, c.table.Counts(1), api.Frame{Kind: api.StreamCount, Fin: true})
	c.putStreamLimits(l)
	c.putDatagrams(l)
	c.putStreams(l)
}

func (c *Conn) putWaiting(l *load) {
	for len(c.waits) > 0 && l.put(c.waits[0]) {
		c.waits = c.waits[1:]
	}
}

// putLimit puts f with what g grants now, if that is due; false, if it did not go in.
func (c *Conn) putLimit(l *load, g *credit.Grant, f api.Frame) bool {
	n, due := g.Due()
	if _, again := c.again[about(f)]; !due && !again {
		return true
	}
	f.A = n
	if !l.put(f) {
		return false
	}
	g.Tell()
	delete(c.again, about(f))
	return true
}

func (c *Conn) putStreamLimits(l *load) {
	for _, id := range c.table.Recvs() {
		s, _ := c.table.Has(id)
		if !s.Ended() && !c.putLimit(l, &s.Grant, api.Frame{Kind: api.StreamLimit, ID: id}) {
			return
		}
	}
}

func (c *Conn) putDatagrams(l *load) {
	for {
		x, ok := c.queue.First()
		if !ok || !l.put(api.Frame{Kind: api.Datagram, Note: x.Note, Data: x.Data}) {
			return
		}
		c.queue.Pop()
	}
}

func (c *Conn) putStreams(l *load) {
	for _, id := range c.table.Sends() {
		s, _ := c.table.Mine(id)
		if !putTurn(l, s) {
			return
		}
		c.putNexts(l, s)
	}
}

// putTurn is false, if there is one that did not go in.
func putTurn(l *load, s *send.Stream) bool {
	f, ok := s.Turn()
	if !ok || l.put(f) {
		return true
	}
	// A Turn counts as told: to lose it at once makes it one that is yet to be told.
	s.Lost(f)
	return false
}

func (c *Conn) putNexts(l *load, s *send.Stream) {
	for {
		f, fresh, ok := s.Next(l.room, c.credit.Left())
		if !ok {
			return
		}
		l.put(f)
		c.credit.Use(fresh)
	}
}

// about tells which limit a frame says.
func about(f api.Frame) limit {
	return limit{kind: f.Kind, id: f.ID, messages: f.Fin}
}

// load is what goes into a packet, and how many bytes it takes yet.
type load struct {
	frames []api.Frame
	room   int
}

// put is false, and changes nothing, if f does not go in.
func (l *load) put(f api.Frame) bool {
	n := frame.Size(f)
	if n > l.room {
		return false
	}
	l.frames = append(l.frames, f)
	l.room -= n
	return true
}
