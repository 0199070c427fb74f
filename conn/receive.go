package conn

import (
	"argosy/api"
	"argosy/frame"
	"argosy/packet"
)

func (c *Conn) Receive(now int, b []byte) api.Errno {
	if c.gone {
		return api.ErrGone
	}
	num, frames, e := packet.Read(c.opens, c.seen.Newest()+1, b)
	switch {
	case e == api.ErrNone:
		// It opened, so that it is the other end's: that one does not keep to the document.
		return c.fail(api.ErrForm)
	case e != api.OK:
		return e
	case !c.seen.Note(num, frame.Elicits(frames...)):
		return api.ErrSeen
	}
	c.heard = now
	for _, f := range frames {
		if e := c.do(now, f); e != api.OK {
			return c.fail(e)
		}
		if c.gone {
			break
		}
	}
	return api.OK
}

// fail is the error itself, for who answers it.
func (c *Conn) fail(e api.Errno) api.Errno {
	c.shut(int(e))
	return e
}

func (c *Conn) do(now int, f api.Frame) api.Errno {
	switch f.Kind {
	case api.Ack:
		return c.doAck(now, f)
	case api.Stream, api.Reset:
		return c.doTheirs(f)
	case api.Stop, api.StreamLimit:
		return c.doMine(f)
	case api.DataLimit:
		c.credit.Raise(f.A)
	case api.StreamCount:
		c.table.Raise(kindCounted(f), f.A)
	case api.Datagram:
		c.datagrams = append(c.datagrams, f.Data)
	case api.Got, api.Away:
		c.controls = append(c.controls, f)
	case api.Close:
		c.end(f.A)
	}
	return api.OK
}

func (c *Conn) doAck(now int, f api.Frame) api.Errno {
	done, e := c.Heard(f.Spans, now)
	if e != api.OK {
		return e
	}
	for _, one := range done {
		c.arrived(one)
	}
	return api.OK
}

// arrived is for a frame that was sent, and came.
func (c *Conn) arrived(f api.Frame) {
	switch f.Kind {
	case api.Stream, api.Reset:
		if s, ok := c.table.Mine(f.ID); ok {
			s.Acked(f)
		}
	case api.Datagram:
		if f.Note >= 0 {
			c.came = append(c.came, f.Note)
		}
	}
}

// doTheirs is for what comes of a stream of the other end.
func (c *Conn) doTheirs(f api.Frame) api.Errno {
	s, e := c.table.Theirs(f.ID)
	if e != api.OK {
		return e
	}
	var fresh int
	if f.Kind == api.Stream {
		fresh, e = s.Put(f.Off, f.Fin, f.Data)
	} else {
		fresh, e = s.Break(f.A, f.Off, f.B)
	}
	if e != api.OK {
		return e
	}
	c.fresh += fresh
	if c.fresh > c.grant.Told {
		return api.ErrLimit
	}
	return api.OK
}

// doMine is for what the other end says of a stream that was opened here.
func (c *Conn) doMine(f api.Frame) api.Errno {
	s, ok := c.table.Mine(f.ID)
	if !ok {
		return api.ErrState
	}
	if f.Kind == api.Stop {
		// One that is Done, or reset already, stays as it is.
		s.Reset(f.A, 0)
	} else {
		s.Raise(f.A)
	}
	return api.OK
}

// kindCounted is the kind of streams that a StreamCount is about.
func kindCounted(f api.Frame) int {
	if f.Fin {
		return 1
	}
	return 0
}
