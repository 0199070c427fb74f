package conn_test

import (
	"bytes"
	"math"
	"slices"
	"testing"

	"argosy/api"
	"argosy/conn"
	"argosy/packet"
	"argosy/recv"
	"argosy/seal"
)

// dice are numbers as if by chance, the same ones each time.
type dice uint64

func (d *dice) below(n int) int {
	*d = *d*6364136223846793005 + 1442695040888963407
	return int(uint64(*d) >> 33 % uint64(n))
}

func (d *dice) from(l ...int) int { return l[d.below(len(l))] }

// flight is a packet under way.
type flight struct {
	to int
	b  []byte
}

// play is two ends with plain ones beside them, and a net that loses, doubles, swaps and turns.
type play struct {
	t     *testing.T
	d     *dice
	ends  [2]*twin
	net   []flight
	now   int
	taken map[int][]byte
	wrote map[int][]byte
	ended map[int]int
	gone  map[int]bool // finished, reset or stopped
	all   bool         // whether wrong calls are made as well
	hand  bool         // whether the other end is played by hand
}

func newPlay(t *testing.T, seed int) *play {
	d := dice(seed)
	for range 9 {
		d.below(2)
	}
	k := uint64(d.below(1 << 30))
	return &play{t: t, d: &d, ends: [2]*twin{newTwin(t, 0, k, 0), newTwin(t, 1, k, 0)}, taken: map[int][]byte{}, wrote: map[int][]byte{}, ended: map[int]int{}, gone: map[int]bool{}}
}

// mine is an ID, most often of a stream that this end opened.
func (p *play) mine(who int) int {
	l := p.ends[who].w.table.Sends()
	if len(l) == 0 || p.all && p.d.below(20) == 0 {
		return p.d.below(30) - 1
	}
	return l[p.d.below(len(l))]
}

// theirs is an ID, most often of a stream of the other end that is there.
func (p *play) theirs(who int) int {
	l := p.ends[who].w.table.Recvs()
	if len(l) == 0 || p.all && p.d.below(20) == 0 {
		return p.d.below(30) - 1
	}
	return l[p.d.below(len(l))]
}

func (p *play) call(who int) {
	b := p.ends[who]
	switch p.d.below(12) {
	case 0:
		b.openStream(p.d.from(0, 0, 1, 1, 2))
	case 1, 2, 3:
		p.write(who, p.mine(who), p.d.from(0, 1, 5, 40, 200, 600))
	case 4:
		p.finish(who, p.mine(who))
	case 5:
		id := p.mine(who)
		sure := p.d.below(len(p.wrote[id]) + 1)
		if p.all && p.d.below(9) == 0 {
			sure = p.d.from(-1, len(p.wrote[id])+1)
		}
		if p.d.below(4) == 0 {
			p.gone[id] = true
			b.reset(id, p.d.from(0, 1, 77, 20000, api.Most), sure)
		}
	case 6:
		if id := p.theirs(who); p.d.below(6) == 0 {
			p.gone[id] = true
			b.stop(id, p.d.from(0, 3, 99, api.Most))
		}
	case 7, 8:
		p.take(who, p.theirs(who), p.d.from(0, 1, 30, 150, 1000))
	case 9:
		b.datagram(p.d.below(12)-2, []byte(text(p.d.from(1, 2, 9, 60, 116)+117*p.wrong())))
	case 10:
		b.control(p.d.from(api.Got, api.Away, api.Got+8*p.wrong()), p.d.from(0, 5, 70, 20000, api.Most, -p.wrong()))
	case 11:
		p.rare(who)
	}
}

// wrong is 1 now and then, where wrong calls are made.
func (p *play) wrong() int {
	if p.all && p.d.below(20) == 0 {
		return 1
	}
	return 0
}

func (p *play) rare(who int) {
	b := p.ends[who]
	switch p.d.below(4) {
	case 0:
		b.drop(p.d.below(12)-2, p.d.below(12)-2)
	case 1, 2:
		b.news()
	case 3:
		if p.all && p.d.below(60) == 0 {
			b.close(p.d.from(-1, 0, 5, 9))
		}
	}
}

func (p *play) write(who, id, n int) {
	b := p.ends[who]
	l := []byte(text(n))
	if s, ok := b.w.table.Mine(id); ok {
		ahead := s.Size()
		b.write(id, l)
		if s.Size() > ahead {
			p.wrote[id] = append(p.wrote[id], l...)
		}
		return
	}
	b.write(id, l)
}

func (p *play) finish(who, id int) {
	p.ends[who].finish(id)
}

// take holds that what is taken are the first bytes that were written (W5).
func (p *play) take(who, id, most int) {
	p.t.Helper()
	l, over := p.ends[who].take(id, most)
	if p.hand {
		return
	}
	p.taken[id] = append(p.taken[id], l...)
	if !bytes.HasPrefix(p.wrote[id], p.taken[id]) || over == recv.Fin && len(p.taken[id]) != len(p.wrote[id]) {
		p.t.Fatalf("W5: stream %d: %q was taken of %q", id, p.taken[id], p.wrote[id])
	}
	if over != 0 {
		p.ended[id] = over
	}
}

func (p *play) tick(who int) {
	p.t.Helper()
	for _, b := range p.ends[who].tick(p.now) {
		if len(b) > api.MaxPacket {
			p.t.Fatalf("17.4: a packet of %d bytes", len(b))
		}
		p.net = append(p.net, flight{1 - who, b})
	}
}

func (p *play) deliver(k int, keep bool) api.Errno {
	p.t.Helper()
	f := p.net[k]
	if !keep {
		p.net = slices.Delete(p.net, k, k+1)
	}
	return p.ends[f.to].receive(p.now, f.b)
}

// carry does something to what is under way.
func (p *play) carry() {
	if len(p.net) == 0 {
		return
	}
	k := p.d.below(len(p.net))
	switch p.d.below(10) {
	case 0:
		p.net = slices.Delete(p.net, k, k+1)
	case 1:
		p.deliver(k, true)
	case 2:
		j := p.d.below(len(p.net))
		p.net[k], p.net[j] = p.net[j], p.net[k]
	case 3:
		p.turned(p.net[k])
	default:
		p.deliver(0, false)
	}
}

// turned changes nothing: the plain end never gets it.
func (p *play) turned(f flight) {
	b := bytes.Clone(f.b)
	b[2+p.d.below(len(b)-2)] ^= byte(1 + p.d.below(255))
	c := p.ends[f.to].c
	_, over := c.Over()
	if e := c.Receive(p.now, b); e == api.OK || e == api.ErrSeen || over != (e == api.ErrGone) {
		p.t.Fatalf("17.3: a turned packet: %d", e)
	}
	p.ends[f.to].same("a turned packet")
}

func (p *play) run(steps int) {
	p.t.Helper()
	for range steps {
		switch k := p.d.below(20); {
		case k < 9:
			p.call(p.d.below(2))
		case k < 16:
			p.carry()
		case k < 18:
			p.now += p.d.from(0, 1, 1, 1, 1, 3, 9)
			p.tick(0)
			p.tick(1)
		default:
			p.now += p.d.below(2)
			p.tick(p.d.below(2))
		}
	}
}

// calm lets all that is under way come, and all that came be taken, until nobody has said anything for longer than a probe waits.
func (p *play) calm() {
	p.t.Helper()
	for silent := 0; silent < 2*api.MaxWait; silent++ {
		for len(p.net) > 0 {
			p.deliver(0, false)
			silent = 0
		}
		p.takeAll()
		p.now++
		p.tick(0)
		p.tick(1)
	}
	p.ends[0].news()
	p.ends[1].news()
}

// takeAll takes all that came; of streams that are over now and then once more.
func (p *play) takeAll() {
	p.t.Helper()
	for who := range 2 {
		for _, id := range p.ends[who].c.Streams() {
			if p.ended[id] == 0 || p.d.below(16) == 0 {
				p.take(who, id, 1000)
			}
		}
	}
}

// wantSettled holds that of two ends, of which neither was closed, all came (W5, W6).
func (p *play) wantSettled() {
	p.t.Helper()
	for who, b := range p.ends {
		if code, over := b.c.Over(); over {
			p.t.Fatalf("W6: end %d is over, with %d", who, code)
		}
		for _, id := range b.w.table.Sends() {
			s, _ := b.w.table.Mine(id)
			if !b.c.Done(id) && s.Size() > len(p.taken[id]) {
				p.t.Fatalf("W8: stream %d: %d of %d bytes were taken", id, len(p.taken[id]), s.Size())
			}
			if s.Finish() != api.OK && !b.c.Done(id) {
				p.t.Fatalf("W8: stream %d is not done", id)
			}
			if b.c.Done(id) && p.ended[id] == 0 || !p.gone[id] && p.ended[id] == recv.Broken {
				p.t.Fatalf("W5: stream %d is done: %d", id, p.ended[id])
			}
		}
	}
}

// TestPlays: whatever two ends do, and whatever the net does to what they send, each answers as a plain one.
func TestPlays(t *testing.T) {
	for seed := range 60 {
		p := newPlay(t, seed)
		p.run(500)
		p.calm()
		p.wantSettled()
	}
}

// TestWrongPlays: with calls that may not be, and Close, too.
func TestWrongPlays(t *testing.T) {
	for seed := range 60 {
		p := newPlay(t, 1000+seed)
		p.all = true
		p.run(700)
	}
}

// TestWidePlays: with a window that lets much more go, or nothing.
func TestWidePlays(t *testing.T) {
	for seed := range 40 {
		p := newPlay(t, 2000+seed)
		for range 30 {
			size := p.d.from(0, 1, 2, 8, 32)
			for _, b := range p.ends {
				b.c.Size, b.w.path.Size = size, size
			}
			p.run(15)
		}
	}
}

// frames are some as if by chance, most of which may be.
func (d *dice) frames(b *twin) []api.Frame {
	var l []api.Frame
	who := b.w.who
	for range 1 + d.below(4) {
		theirs, own := 4*d.below(3)+2*d.below(2)+1-who, 4*d.below(3)+2*d.below(2)+who
		if d.below(30) == 0 {
			theirs, own = own, theirs
		}
		if d.below(60) == 0 {
			theirs = d.from(4*6+1-who, 4*9+1-who, 4<<40+5-who)
		}
		at := d.from(0, 0, 1, 50, 100, 200, 300, 399, 400, 500)
		switch d.below(13) {
		case 0:
			n := max(0, b.w.path.Next()-1)
			to := n - d.below(n+1)
			if d.below(40) == 0 {
				to = n + 1
			}
			l = append(l, ack([2]int{to - d.below(to+1), to}))
		case 1, 2, 3:
			l = append(l, stream(theirs, at, text(d.from(0, 1, 3, 100)), d.below(9) == 0))
		case 4:
			l = append(l, reset(theirs, d.below(99), at, d.below(at+1)))
		case 5:
			l = append(l, stop(own, d.below(99)))
		case 6:
			l = append(l, dataLimit(d.from(0, 900, 1000, 1001, 1300, 5000)))
		case 7:
			l = append(l, streamLimit(own, d.from(0, 399, 400, 401, 700)))
		case 8:
			l = append(l, streamCount(d.from(0, 5, 6, 7, 9), d.below(2) == 0))
		case 9:
			l = append(l, datagram(text(1+d.below(9))))
		case 10:
			l = append(l, got(d.below(9)))
		case 11:
			l = append(l, away(d.below(9)))
		case 12:
			l = append(l, ping)
			if d.below(40) == 0 {
				l = append(l, closing(d.below(9)))
			}
		}
	}
	return l
}

// TestOddPlays: an end that gets whatever another one with the key may lay, in whatever order.
func TestOddPlays(t *testing.T) {
	for seed := range 500 {
		p := newPlay(t, 3000+seed)
		p.all, p.hand = true, true
		who := seed % 2
		b := p.ends[who]
		num := 0
		for range 60 {
			p.call(who)
			if p.d.below(3) == 0 {
				p.now += p.d.from(0, 1, 1, 5)
				b.tick(p.now)
			}
			at := num
			if p.d.below(5) == 0 {
				at = max(0, num-p.d.below(80))
			}
			l, e := packet.Lay(seal.Step(b.w.key, uint64(1-who)), at, max(at-100, -1), p.d.frames(b)...)
			if e == api.OK && b.receive(p.now, l) != api.ErrSeen {
				num = max(num, at+1) + p.d.below(2)
			}
			if b.failed {
				b.tick(p.now + 1)
				break
			}
			if p.d.below(4) == 0 {
				b.news()
			}
		}
	}
}

// TestLongPlay: many streams, one behind the other, through many grants.
func TestLongPlay(t *testing.T) {
	p := newPlay(t, 5)
	opened := [2][2]int{}
	for range 70 {
		for who, b := range p.ends {
			for kind := range 2 {
				if id, e := b.c.OpenStream(kind); e == api.OK {
					b.w.open(kind)
					opened[who][kind]++
					p.write(who, id, p.d.from(0, 10, 300, 900))
					p.finish(who, id)
				}
			}
		}
		for range 8 {
			p.now++
			p.tick(0)
			p.tick(1)
			for len(p.net) > 0 {
				if p.d.below(6) == 0 {
					p.net = p.net[1:]
				} else {
					p.deliver(0, false)
				}
			}
			p.takeAll()
		}
	}
	p.calm()
	p.wantSettled()
	for _, l := range opened {
		if l[0] < 60 || l[1] < 60 {
			t.Fatalf("W8: only so many streams were opened: %v", opened)
		}
	}
}

// TestAgain: the same plays answer the same, byte for byte, each time, also side by side.
func TestAgain(t *testing.T) {
	for seed := range 5 {
		var logs [][]byte
		var side []*play
		for range 6 {
			side = append(side, newPlay(t, 4000+seed))
		}
		for range 60 {
			for _, p := range side {
				p.run(10)
			}
		}
		for _, p := range side {
			logs = append(logs, slices.Concat(p.ends[0].log.Bytes(), p.ends[1].log.Bytes()))
		}
		alone := newPlay(t, 4000+seed)
		alone.run(600)
		logs = append(logs, slices.Concat(alone.ends[0].log.Bytes(), alone.ends[1].log.Bytes()))
		for k, l := range logs {
			if !bytes.Equal(l, logs[0]) {
				t.Fatalf("R4: play %d differs", k)
			}
		}
	}
}

// TestApart: two connections know nothing of one another.
func TestApart(t *testing.T) {
	one, two := newHand(t, 0, 0), newHand(t, 0, 0)
	one.open(0, 6)
	one.ok(one.c.Write(0, []byte("a")), one.c.Control(api.Got, 1), one.c.Datagram(1, []byte("b")), one.c.Close(3))
	one.says(1, stream(1, 0, "c", true), datagram("d"), got(2))
	two.open(0, 1)
	two.wantStreams()
	two.wantDatagrams()
	two.wantControls()
	two.wantNone(2)
	one.wantOne(2, upTo(0), closing(3))
	two.wantOver(0, false)
	two.ok(two.c.Write(0, []byte("x")))
	two.wantOne(3, stream(0, 0, "x", false))
}

// TestHandedIn: what was handed in is not changed, and not kept.
func TestHandedIn(t *testing.T) {
	h := newHand(t, 0, 0)
	h.open(0, 1)
	room := []byte("abcdefgh")
	b := room[:3]
	h.ok(h.c.Write(0, b), h.c.Datagram(1, room[3:5]))
	copy(room, "XXXXXXXX")
	h.ok(h.c.Write(0, []byte("z")))
	h.wantOne(1, datagram("de"), stream(0, 0, "abcz", false))
	copy(room, "YYYYYYYY")
	h.wantOne(9, stream(0, 0, "abcz", false))
	if string(room) != "YYYYYYYY" {
		t.Fatalf("R2: what was handed in: %q", room)
	}
	l := h.lay(0, stream(1, 0, "hello", true), datagram("data"), ack([2]int{1, 1}))
	room = append(bytes.Clone(l), "spare room"...)
	if e := h.c.Receive(10, room[:len(l)]); e != api.OK || !bytes.Equal(room, append(bytes.Clone(l), "spare room"...)) {
		t.Fatalf("R2: Receive: %d, %x", e, room)
	}
	for k := range room {
		room[k] = 0xff
	}
	h.wantTake(1, 2, "he", 0, 0)
	h.wantDatagrams("data")
	h.wantTake(1, 9, "llo", recv.Fin, 0)
	notes := []int{1, 2, 3, 1, 2, 3}
	for _, n := range notes {
		h.ok(h.c.Datagram(n, []byte("n")))
	}
	if h.c.Drop(notes[:2]...) != 4 || !slices.Equal(notes, []int{1, 2, 3, 1, 2, 3}) {
		t.Fatalf("R2: Drop: %v", notes)
	}
}

// spoil writes over all of b, its spare room too.
func spoil(b []byte) {
	b = b[:cap(b)]
	for k := range b {
		b[k] = 0xee
	}
}

// spoilInts likewise.
func spoilInts(l []int) {
	l = l[:cap(l)]
	for k := range l {
		l[k] = -7
	}
}

// TestNewMemory: what was told may be changed.
func TestNewMemory(t *testing.T) {
	h := newHand(t, 0, 0)
	h.c.Size = 32
	h.open(0, 1)
	h.ok(h.c.Write(0, []byte(text(400))), h.c.Datagram(1, []byte("ab")), h.c.Datagram(2, []byte("cd")))
	l := h.c.Tick(1)
	var kept [][]byte
	for _, b := range l {
		kept = append(kept, bytes.Clone(b))
	}
	for k, b := range l {
		if !bytes.Equal(b, kept[k]) {
			t.Fatalf("R2: packet %d shares with another one", k)
		}
		spoil(b)
	}
	l = l[:cap(l)]
	clear(l)
	h.next = h.c.Next()
	h.want(9, []api.Frame{stream(0, 0, text(120), false), stream(0, 120, text(400)[120:217], false)}, []api.Frame{stream(0, 217, text(400)[217:337], false), stream(0, 337, text(400)[337:], false)})
	came, lost := h.c.Notes()
	spoilInts(came)
	spoilInts(lost)
	h.wantNotes(nil, nil)
	h.says(10, stream(5, 0, "hello", false), datagram("one"), datagram("two"), got(3), away(4))
	d := h.c.Datagrams()
	spoil(d[0])
	if string(d[1]) != "two" {
		t.Fatalf("R2: datagrams share: %q", d[1])
	}
	clear(d[:cap(d)])
	f := h.c.Controls()
	clear(f[:cap(f)])
	h.wantControls()
	b, _, _, _ := h.c.Take(5, 2)
	spoil(b)
	h.wantTake(5, 1, "l", 0, 0)
	ids := h.c.Streams()
	spoilInts(ids)
	h.wantStreams(1, 5)
	h.says(10, datagram("three"), got(5))
	h.wantDatagrams("three")
	h.wantControls(got(5))
	h.wantTake(5, 9, "lo", 0, 0)
}

// TestAnswersStay: what was told stays as it is, whatever comes and goes behind it.
func TestAnswersStay(t *testing.T) {
	h := newHand(t, 0, 0)
	h.open(0, 1)
	h.c.Size = 32
	type answers struct {
		packets, datagrams [][]byte
		controls           []api.Frame
		came, lost, ids    []int
		taken              []byte
	}
	// copied is all of it in other memory.
	copied := func(a answers) answers {
		for _, l := range []*[][]byte{&a.packets, &a.datagrams} {
			*l = slices.Clone(*l)
			for k, b := range *l {
				(*l)[k] = bytes.Clone(b)
			}
		}
		a.controls, a.came, a.lost, a.ids, a.taken = slices.Clone(a.controls), slices.Clone(a.came), slices.Clone(a.lost), slices.Clone(a.ids), bytes.Clone(a.taken)
		return a
	}
	same := func(a, b answers) bool {
		return slices.EqualFunc(a.packets, b.packets, bytes.Equal) && slices.EqualFunc(a.datagrams, b.datagrams, bytes.Equal) && slices.EqualFunc(a.controls, b.controls, sameFrame) &&
			slices.Equal(a.came, b.came) && slices.Equal(a.lost, b.lost) && slices.Equal(a.ids, b.ids) && bytes.Equal(a.taken, b.taken)
	}
	var told, kept []answers
	for k := range 6 {
		now := 10 * k
		s := text(9 + k)
		h.ok(h.c.Datagram(2*k, []byte(s)), h.c.Datagram(2*k+1, []byte(s[1:])), h.c.Write(0, []byte(s)))
		h.says(now, datagram(s[2:]), datagram(s[3:]), got(k), away(k+9), stream(4*min(k, 5)+1, 0, s, false), stream(1, 3*k, s[:3], false))
		a := answers{packets: h.c.Tick(now)}
		if k%2 == 0 {
			h.says(now+1, ack([2]int{h.c.Next() - 1, h.c.Next() - 1}))
		}
		a.datagrams, a.controls, a.ids = h.c.Datagrams(), h.c.Controls(), h.c.Streams()
		a.came, a.lost = h.c.Notes()
		a.taken, _, _, _ = h.c.Take(1, 3)
		if len(a.packets) == 0 || len(a.datagrams) != 2 || len(a.controls) != 2 || len(a.taken) != 3 {
			t.Fatalf("17: round %d: %+v", k, a)
		}
		told, kept = append(told, a), append(kept, copied(a))
		for n := range told {
			if !same(told[n], kept[n]) {
				t.Fatalf("R2: round %d, behind round %d: %+v, not %+v", n, k, told[n], kept[n])
			}
		}
	}
}

// TestNotesApart: the two lists of Notes share nothing.
func TestNotesApart(t *testing.T) {
	h := newHand(t, 0, 0)
	for k := range 8 {
		h.ok(h.c.Datagram(k, []byte("a")))
		h.c.Size = 32
		h.tick(1)
	}
	h.says(2, ack([2]int{7, 7}, [2]int{3, 4}))
	h.tick(2)
	came, lost := h.c.Notes()
	spoilInts(came)
	if !slices.Equal(lost, []int{0, 1, 2}) {
		t.Fatalf("R2: Notes share: %v", lost)
	}
	spoilInts(lost)
	h.says(3, upTo(7))
	h.wantNotes([]int{5, 6}, nil)
}

// TestAnyArguments: no call panics, whatever it is given.
func TestAnyArguments(t *testing.T) {
	ints := []int{math.MinInt, math.MinInt + 1, -1 << 62, -2, -1, 0, 1, 2, 3, 63, 64, 1 << 30, 1 << 40, 4 << 40, api.Most - 1, api.Most, api.Most + 1, math.MaxInt - 1, math.MaxInt}
	for _, n := range ints {
		for _, m := range ints {
			c := conn.New(n, uint64(m), m)
			c.OpenStream(n)
			c.OpenStream(m)
			id, _ := c.OpenStream(0)
			for _, i := range []int{id, n} {
				c.Write(i, nil)
				c.Write(i, []byte("abc"))
				c.Reset(i, n, m)
				c.Finish(i)
				c.Stop(i, m)
				c.Take(i, m)
				c.Done(i)
			}
			c.Datagram(n, []byte("a"))
			c.Drop(n, m)
			c.Datagram(m, []byte("b"))
			c.Control(n, m)
			c.Control(api.Got, m)
			c.Receive(n, nil)
			c.Receive(n, []byte{64})
			c.Tick(n)
			c.Tick(m)
			c.Tick(n)
			c.Close(m)
			c.Tick(m)
		}
	}
}
