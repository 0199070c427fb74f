package send_test

import (
	"bytes"
	"math"
	"slices"
	"strings"
	"testing"

	"argosy/api"
	"argosy/credit"
	"argosy/frame"
	"argosy/send"
)

// one is the number of the streams that are told by data and turned: it is laid in a byte.
const one = 4

// text is n bytes, such that no two stretches of some bytes are the same.
func text(n int) []byte {
	b := make([]byte, n)
	for k := range b {
		b[k] = byte(k*7 + k/256*31 + k%11)
	}
	return b
}

func data(off int, b []byte, fin bool) api.Frame {
	return api.Frame{Kind: api.Stream, ID: one, Off: off, Fin: fin, Data: b}
}

func turned(code, end, sure int) api.Frame {
	return api.Frame{Kind: api.Reset, ID: one, A: code, Off: end, B: sure}
}

// sameFrame holds every field: what the Kind does not name as well.
func sameFrame(a, b api.Frame) bool {
	return a.Kind == b.Kind && a.ID == b.ID && a.Off == b.Off && a.A == b.A && a.B == b.B && a.Note == b.Note && a.Fin == b.Fin &&
		bytes.Equal(a.Data, b.Data) && slices.Equal(a.Spans, b.Spans)
}

func wantNext(t *testing.T, s *send.Stream, room, most int, w api.Frame, fresh int) {
	t.Helper()
	top, limit := s.Used, s.Limit
	f, n, ok := s.Next(room, most)
	if !ok || !sameFrame(f, w) || n != fresh {
		t.Fatalf("13.2: Next(%d, %d): %+v, %d, %v, not %+v, %d", room, most, f, n, ok, w, fresh)
	}
	if s.Used != top+fresh || s.Limit != limit {
		t.Fatalf("13.2: Next(%d, %d): the top was %d, and is %d, of %d", room, most, top, s.Used, s.Limit)
	}
}

// wantNone is a Next that is false; that nothing has changed, what comes behind it tells.
func wantNone(t *testing.T, s *send.Stream, room, most int) {
	t.Helper()
	ahead := s.Credit
	f, n, ok := s.Next(room, most)
	if ok || n != 0 || !sameFrame(f, api.Frame{}) || s.Credit != ahead {
		t.Fatalf("13.2: Next(%d, %d): %+v, %d, %v, %+v, not false", room, most, f, n, ok, s.Credit)
	}
}

func wantTurn(t *testing.T, s *send.Stream, w api.Frame) {
	t.Helper()
	ahead := s.Credit
	f, ok := s.Turn()
	if !ok || !sameFrame(f, w) || s.Credit != ahead {
		t.Fatalf("13.2: Turn: %+v, %v, not %+v", f, ok, w)
	}
	wantNoTurn(t, s)
}

func wantNoTurn(t *testing.T, s *send.Stream) {
	t.Helper()
	for range 2 {
		if f, ok := s.Turn(); ok || !sameFrame(f, api.Frame{}) {
			t.Fatalf("13.2: Turn: %+v, %v, not false", f, ok)
		}
	}
}

// wantErr holds what Write, Finish or Reset answered.
func wantErr(t *testing.T, what string, e, w api.Errno) {
	t.Helper()
	if e != w {
		t.Fatalf("13.1: %s: %d, not %d", what, e, w)
	}
}

// wantDone asks twice, as asking changes nothing.
func wantDone(t *testing.T, s *send.Stream, w bool) {
	t.Helper()
	for range 2 {
		if s.Done() != w {
			t.Fatalf("13.3: Done: %v", !w)
		}
	}
}

// filled is a stream of which so many bytes were written, with as much credit as it wants, and sent up to top.
func filled(t *testing.T, size, top int) *send.Stream {
	t.Helper()
	s := send.New(one)
	s.Raise(1 << 20)
	wantErr(t, "Write", s.Write(text(size)), api.OK)
	for s.Used < top {
		if _, n, ok := s.Next(999, top-s.Used); !ok || n < 1 {
			t.Fatalf("13.2: Next at %d: %d, %v", s.Used, n, ok)
		}
	}
	return s
}

// fact is what a plain stream knows of its Fin, and of its Reset.
type fact struct{ told, lost, came bool }

func (f *fact) due() bool { return !f.told || f.lost }

// plain is a stream as the chapter words it: it knows of each byte what became of it.
type plain struct {
	id, limit, used int
	text            []byte
	lost, came      [send.MaxBytes]bool
	finished, reset bool
	code, sure      int
	fin, turn       fact
}

func newPlain(id int) *plain { return &plain{id: id, limit: 400} }

func (p *plain) write(b []byte) api.Errno {
	switch {
	case p.finished || p.reset:
		return api.ErrState
	case len(p.text)+len(b) > 4000:
		return api.ErrFull
	}
	p.text = append(p.text, b...)
	return api.OK
}

func (p *plain) finish() api.Errno {
	if p.finished || p.reset {
		return api.ErrState
	}
	p.finished = true
	return api.OK
}

func (p *plain) resets(code, sure int) api.Errno {
	switch {
	case code < 0 || code > 1<<62-1 || sure < 0 || sure > len(p.text):
		return api.ErrArg
	case p.done() || p.reset && !(p.sure > sure):
		return api.ErrState
	case !p.reset:
		p.reset, p.code = true, code
	}
	p.sure, p.turn = sure, fact{}
	return api.OK
}

func (p *plain) mayGo(place int) bool {
	return place < len(p.text) && (!p.reset || place < p.sure)
}

// wide is how many bytes a number is laid in.
func wide(n int) int {
	switch {
	case n < 64:
		return 1
	case n < 16384:
		return 2
	case n < 1<<30:
		return 4
	}
	return 8
}

// laid is how long a Stream frame is: Kind, ID, Off, Fin, length, bytes.
func laid(id, off, n int) int {
	return 1 + wide(id) + wide(off) + 1 + wide(n) + n
}

// goes is how many bytes from off on go into a frame and into room, of at most n; -1, if the frame does not without them.
func (p *plain) goes(off, n, room int) int {
	for n = min(n, 120); n >= 0 && laid(p.id, off, n) > room; n-- {
	}
	return n
}

func (p *plain) next(room, most int) (api.Frame, int, bool) {
	for off := range p.used {
		if p.lost[off] && p.mayGo(off) {
			n := 0
			for off+n < p.used && p.lost[off+n] && p.mayGo(off+n) {
				n++
			}
			return p.tells(off, p.goes(off, n, room), 0)
		}
	}
	n := 0
	for n < most && p.used+n < p.limit && p.mayGo(p.used+n) {
		n++
	}
	n = p.goes(p.used, n, room)
	if n == 0 && p.finished && !p.reset && p.used == len(p.text) && p.fin.due() {
		p.fin.told, p.fin.lost = true, false
		return api.Frame{Kind: 3, ID: p.id, Off: p.used, Fin: true}, 0, true
	}
	return p.tells(p.used, n, n)
}

func (p *plain) tells(off, n, fresh int) (api.Frame, int, bool) {
	if n < 1 {
		return api.Frame{}, 0, false
	}
	f := api.Frame{Kind: 3, ID: p.id, Off: off, Data: p.text[off : off+n]}
	for place := off; place < off+n; place++ {
		p.lost[place] = false
	}
	p.used += fresh
	if f.Fin = p.finished && !p.reset && off+n == len(p.text); f.Fin {
		p.fin.told, p.fin.lost = true, false
	}
	return f, fresh, true
}

func (p *plain) turns() (api.Frame, bool) {
	if !p.reset || p.used < p.sure || !p.turn.due() {
		return api.Frame{}, false
	}
	p.turn.told, p.turn.lost = true, false
	return api.Frame{Kind: 4, ID: p.id, A: p.code, Off: p.used, B: p.sure}, true
}

// hears is Acked, if came, else Lost.
func (p *plain) hears(f api.Frame, came bool) {
	if f.ID != p.id {
		return
	}
	switch f.Kind {
	case api.Stream:
		for k := range f.Data {
			if place := f.Off + k; place >= 0 && place < p.used {
				p.lost[place] = !came && !p.came[place]
				p.came[place] = came || p.came[place]
			}
		}
		if f.Fin && f.Off+len(f.Data) == len(p.text) {
			p.fin.hears(came)
		}
	case api.Reset:
		if p.reset && f.B == p.sure {
			p.turn.hears(came)
		}
	}
}

func (f *fact) hears(came bool) {
	if f.told {
		f.came = came || f.came
		f.lost = !f.came
	}
}

func (p *plain) done() bool {
	came := 0
	for came < len(p.text) && p.came[came] {
		came++
	}
	return p.finished && p.fin.came && came == len(p.text) || p.reset && p.turn.came && came >= p.sure
}

// twin is a stream and a plain one that are told the same, and must answer the same; told is all that they told.
type twin struct {
	*testing.T
	s    *send.Stream
	p    *plain
	told []api.Frame
}

func newTwin(t *testing.T, id int) *twin {
	return &twin{t, send.New(id), newPlain(id), nil}
}

func (w *twin) same(what string) {
	w.Helper()
	if c := (credit.Credit{Limit: w.p.limit, Used: w.p.used}); w.s.Credit != c || w.s.Left() != c.Limit-c.Used {
		w.Fatalf("13.1: behind %s: %+v, not %+v", what, w.s.Credit, c)
	}
	if w.s.Size() != len(w.p.text) {
		w.Fatalf("13.1: behind %s: Size %d, not %d", what, w.s.Size(), len(w.p.text))
	}
	if w.s.Done() != w.p.done() {
		w.Fatalf("13.3: behind %s: Done %v, not so: %+v, %+v", what, w.s.Done(), w.p.fin, w.p.turn)
	}
}

func (w *twin) write(n int) {
	w.Helper()
	b := text(len(w.p.text) + n)[len(w.p.text):]
	wantErr(w.T, "Write", w.s.Write(b), w.p.write(b))
	w.same("Write")
}

func (w *twin) finish() {
	w.Helper()
	wantErr(w.T, "Finish", w.s.Finish(), w.p.finish())
	w.same("Finish")
}

func (w *twin) reset(code, sure int) {
	w.Helper()
	wantErr(w.T, "Reset", w.s.Reset(code, sure), w.p.resets(code, sure))
	w.same("Reset")
}

func (w *twin) next(room, most int) bool {
	w.Helper()
	wf, wn, wok := w.p.next(room, most)
	f, n, ok := w.s.Next(room, most)
	if ok != wok || n != wn || !sameFrame(f, wf) {
		w.Fatalf("13.2: Next(%d, %d): %+v, %d, %v, not %+v, %d, %v", room, most, f, n, ok, wf, wn, wok)
	}
	if ok {
		if size := frame.Size(f); size < 0 || size > room || n > max(most, 0) {
			w.Fatalf("13.2: Next(%d, %d): %+v, %d: %d bytes", room, most, f, n, size)
		}
		w.told = append(w.told, f)
	}
	w.same("Next")
	return ok
}

func (w *twin) turn() bool {
	w.Helper()
	wf, wok := w.p.turns()
	f, ok := w.s.Turn()
	if ok != wok || !sameFrame(f, wf) {
		w.Fatalf("13.2: Turn: %+v, %v, not %+v, %v", f, ok, wf, wok)
	}
	if ok {
		if !frame.Right(f) {
			w.Fatalf("13.2: Turn: %+v is not right", f)
		}
		w.told = append(w.told, f)
	}
	w.same("Turn")
	return ok
}

func (w *twin) hears(f api.Frame, came bool) {
	w.Helper()
	w.p.hears(f, came)
	if came {
		w.s.Acked(f)
		w.same("Acked")
	} else {
		w.s.Lost(f)
		w.same("Lost")
	}
}

func (w *twin) raise(n int) {
	w.Helper()
	up := n > w.p.limit && n <= api.Most
	if up {
		w.p.limit = n
	}
	if w.s.Raise(n) != up {
		w.Fatalf("13.1: Raise(%d): %v", n, !up)
	}
	w.same("Raise")
}

// rest has all lost that did not come, and then all told that is yet to be told, and acknowledged, until there is no more.
func (w *twin) rest() {
	w.Helper()
	w.raise(min(w.s.Limit, api.Most-9999) + 9999)
	for _, f := range w.told {
		w.hears(f, false)
	}
	for w.next(999, 999) || w.turn() {
		w.hears(w.told[len(w.told)-1], true)
	}
}

// dice is a row of numbers that look thrown, the same at each run.
type dice uint64

func (d *dice) below(n int) int {
	*d = *d*6364136223846793005 + 1442695040888963407
	return int(uint64(*d)>>33) % n
}

func (d *dice) from(l ...int) int { return l[d.below(len(l))] }

// ends are numbers at both ends of an int, and at both ends of what may be.
func ends() []int {
	return []int{math.MinInt, math.MinInt + 1, math.MinInt + 119, math.MinInt / 2, -api.Most, -1 << 32, -4001, -1,
		1 << 32, api.Most - 1, api.Most, api.Most + 1, math.MaxInt - 120, math.MaxInt - 119, math.MaxInt - 3, math.MaxInt - 1, math.MaxInt}
}

// TestExample: 13.2, the chapter's example.
func TestExample(t *testing.T) {
	s := send.New(one)
	wantErr(t, "Write", s.Write([]byte("abc")), api.OK)
	wantErr(t, "Finish", s.Finish(), api.OK)
	wantNext(t, s, 99, 99, data(0, []byte("abc"), true), 3)
	wantNone(t, s, 99, 99)
}

// TestNew: 13.1, of a new stream nothing was written, and StreamRoom bytes may be sent; of any ID that may be.
func TestNew(t *testing.T) {
	for _, id := range []int{0, 1, 4, 63, 64, 1 << 20, 1<<42 + 3, api.Most} {
		s := send.New(id)
		if s.Limit != 400 || s.Used != 0 || s.Left() != 400 || s.Size() != 0 {
			t.Fatalf("13.1: New(%d): %+v, Size %d", id, s.Credit, s.Size())
		}
		wantDone(t, s, false)
		wantNone(t, s, 999, 999)
		wantNoTurn(t, s)
		wantErr(t, "Write", s.Write([]byte("a")), api.OK)
		wantNext(t, s, 99, 99, api.Frame{Kind: api.Stream, ID: id, Data: []byte("a")}, 1)
		wantErr(t, "Reset", s.Reset(3, 1), api.OK)
		wantTurn(t, s, api.Frame{Kind: api.Reset, ID: id, A: 3, Off: 1, B: 1})
	}
	if send.MaxBytes != 4000 {
		t.Fatalf("13: MaxBytes %d", send.MaxBytes)
	}
}

// TestWrite: 13.1, what is written is behind what was, sent or not; Size tells how much that is in all.
func TestWrite(t *testing.T) {
	s := send.New(one)
	size := 0
	for _, b := range []string{"abc", "", "d", "efghij"} {
		wantErr(t, "Write", s.Write([]byte(b)), api.OK)
		size += len(b)
		if s.Size() != size || s.Used != 0 {
			t.Fatalf("13.1: Write of %q: Size %d, not %d; top %d", b, s.Size(), size, s.Used)
		}
	}
	wantNext(t, s, 10, 99, data(0, []byte("abcde"), false), 5)
	wantErr(t, "Write", s.Write([]byte("klm")), api.OK)
	if s.Size() != 13 {
		t.Fatalf("13.1: Size %d, not 13", s.Size())
	}
	wantNext(t, s, 99, 99, data(5, []byte("fghijklm"), false), 8)
	wantNone(t, s, 99, 99)
	wantErr(t, "Write", s.Write([]byte("n")), api.OK)
	wantNext(t, s, 99, 99, data(13, []byte("n"), false), 1)
	wantDone(t, s, false)
}

// TestWriteNone: 13.1, to write none is well, and changes nothing.
func TestWriteNone(t *testing.T) {
	s := send.New(one)
	for _, b := range [][]byte{nil, {}, make([]byte, 0, 9)} {
		wantErr(t, "Write of none", s.Write(b), api.OK)
	}
	if s.Size() != 0 {
		t.Fatalf("13.1: Size %d", s.Size())
	}
	wantNone(t, s, 99, 99)
	wantErr(t, "Finish", s.Finish(), api.OK)
	wantNext(t, s, 99, 99, data(0, nil, true), 0)
}

// TestWriteFull: 13.1, just MaxBytes in all, at once and in parts, and one more, which changes nothing.
func TestWriteFull(t *testing.T) {
	all := text(5000)
	for _, parts := range [][]int{{4000}, {3999, 1}, {1, 3999}, {0, 4000, 0}, {1000, 1000, 1000, 1000}} {
		s := send.New(one)
		s.Raise(9999)
		wantErr(t, "Write of 4001", s.Write(all[:4001]), api.ErrFull)
		for _, n := range parts {
			at := s.Size()
			wantErr(t, "Write of one too many", s.Write(all[at:4001]), api.ErrFull)
			if s.Size() != at {
				t.Fatalf("13.1: ErrFull, and Size %d, not %d", s.Size(), at)
			}
			wantErr(t, "Write", s.Write(all[at:at+n]), api.OK)
		}
		if s.Size() != 4000 {
			t.Fatalf("13.1: Size %d", s.Size())
		}
		for _, n := range []int{1, 2, 1000} {
			wantErr(t, "Write when full", s.Write(all[:n]), api.ErrFull)
		}
		wantErr(t, "Write of none when full", s.Write(nil), api.OK)
		for at := 0; at < 4000; at += 120 {
			n := min(120, 4000-at)
			wantNext(t, s, 999, 999, data(at, all[at:at+n], false), n)
		}
		wantNone(t, s, 999, 999)
		wantErr(t, "Write when full, and sent", s.Write(all[:1]), api.ErrFull)
		wantErr(t, "Finish when full", s.Finish(), api.OK)
		wantNext(t, s, 6, 0, data(4000, nil, true), 0)
	}
	wantErr(t, "Write of very many", send.New(one).Write(make([]byte, 1<<22)), api.ErrFull)
}

// TestState: 13.1, Write and Finish behind Finish, and behind Reset; ErrState ahead of ErrFull; nothing has changed.
func TestState(t *testing.T) {
	for _, how := range []string{"Finish", "Reset"} {
		s := send.New(one)
		wantErr(t, "Write", s.Write([]byte("abc")), api.OK)
		if how == "Finish" {
			wantErr(t, how, s.Finish(), api.OK)
		} else {
			wantErr(t, how, s.Reset(5, 3), api.OK)
		}
		for range 2 {
			for _, n := range []int{0, 1, 3997, 3998, 4000, 4001} {
				wantErr(t, "Write behind "+how, s.Write(text(n)), api.ErrState)
			}
			wantErr(t, "Finish behind "+how, s.Finish(), api.ErrState)
			if s.Size() != 3 {
				t.Fatalf("13.1: behind %s: Size %d", how, s.Size())
			}
		}
		wantNext(t, s, 99, 99, data(0, []byte("abc"), how == "Finish"), 3)
		wantNone(t, s, 99, 99)
	}
}

// TestResetArgs: 13.1, which codes and which sures may be; ErrArg changes nothing, and stands ahead of ErrState.
func TestResetArgs(t *testing.T) {
	for code, ok := range map[int]bool{0: true, 1: true, 7: true, 1 << 40: true, api.Most - 1: true, api.Most: true,
		api.Most + 1: false, -1: false, math.MinInt: false, math.MaxInt: false, -api.Most: false} {
		for sure, may := range map[int]bool{0: true, 1: true, 9: true, 10: true, 11: false, -1: false, 4000: false, math.MinInt: false, math.MaxInt: false, api.Most: false} {
			s := filled(t, 10, 10)
			if !ok || !may {
				wantErr(t, "Reset that may not be", s.Reset(code, sure), api.ErrArg)
				wantNoTurn(t, s)
				wantErr(t, "Write", s.Write([]byte("a")), api.OK)
				wantNext(t, s, 99, 99, data(10, []byte("a"), false), 1)
				wantErr(t, "Finish", s.Finish(), api.OK)
				s.Acked(data(0, text(10), false))
				s.Acked(data(10, []byte("a"), true))
				wantDone(t, s, false)
				wantNext(t, s, 99, 99, data(11, nil, true), 0)
				s.Acked(data(11, nil, true))
				wantDone(t, s, true)
				wantErr(t, "Reset that may not be, when Done", s.Reset(code, sure+3), wrong(!ok || sure < -3 || sure > 8))
				continue
			}
			wantErr(t, "Reset", s.Reset(code, sure), api.OK)
			wantTurn(t, s, turned(code, 10, sure))
		}
	}
	s := send.New(one)
	wantErr(t, "Reset of none written", s.Reset(0, 1), api.ErrArg)
	wantErr(t, "Reset of none written", s.Reset(0, 0), api.OK)
	wantTurn(t, s, turned(0, 0, 0))
	for _, x := range [][2]int{{-1, 0}, {api.Most + 1, 0}, {0, -1}, {0, 1}} {
		wantErr(t, "Reset that may not be, anew", s.Reset(x[0], x[1]), api.ErrArg)
	}
	wantErr(t, "Reset anew", s.Reset(0, 0), api.ErrState)
}

// wrong is ErrArg, if an argument may not be, else ErrState.
func wrong(arg bool) api.Errno {
	if arg {
		return api.ErrArg
	}
	return api.ErrState
}

// TestResetAnew: 13.1, anew with a lesser sure alone; the first one's code stays, this one's sure counts; what is refused changes nothing.
func TestResetAnew(t *testing.T) {
	s := filled(t, 10, 10)
	wantErr(t, "Reset", s.Reset(7, 6), api.OK)
	for _, code := range []int{7, 8, 0} {
		for _, sure := range []int{6, 7, 10} {
			wantErr(t, "Reset with a sure that is not less", s.Reset(code, sure), api.ErrState)
		}
	}
	wantTurn(t, s, turned(7, 10, 6))
	wantErr(t, "Reset with the same, told", s.Reset(7, 6), api.ErrState)
	wantErr(t, "Reset with more, told", s.Reset(7, 9), api.ErrState)
	wantNoTurn(t, s)
	wantErr(t, "Reset with less", s.Reset(9, 5), api.OK)
	wantTurn(t, s, turned(7, 10, 5))
	wantErr(t, "Reset with what it was first", s.Reset(7, 6), api.ErrState)
	wantErr(t, "Reset with less, not told yet", s.Reset(api.Most, 4), api.OK)
	wantErr(t, "Reset with less, not told yet", s.Reset(0, 1), api.OK)
	wantErr(t, "Reset with less, not told yet", s.Reset(0, 0), api.OK)
	wantErr(t, "Reset with the least", s.Reset(0, 0), api.ErrState)
	wantTurn(t, s, turned(7, 10, 0))
	wantDone(t, s, false)
	s.Acked(turned(7, 10, 0))
	wantDone(t, s, true)
}

// TestResetFinished: 13.1, 13.2, a finished one may be reset: it tells no Fin then, and is Done by its Reset.
func TestResetFinished(t *testing.T) {
	b := text(10)
	s := filled(t, 10, 4)
	wantErr(t, "Finish", s.Finish(), api.OK)
	wantErr(t, "Reset of a finished one", s.Reset(5, 10), api.OK)
	wantNext(t, s, 99, 99, data(4, b[4:], false), 6)
	wantNone(t, s, 99, 99)
	wantTurn(t, s, turned(5, 10, 10))
	s.Acked(turned(5, 10, 10))
	s.Acked(data(0, b[:4], false))
	wantDone(t, s, false)
	s.Lost(data(4, b[4:], false))
	wantNext(t, s, 99, 99, data(4, b[4:], false), 0)
	wantNone(t, s, 99, 99)
	s.Acked(data(4, b[4:], false))
	wantDone(t, s, true)

	// Fin was told, and is lost behind the Reset: it is not told again.
	s = filled(t, 10, 4)
	wantErr(t, "Finish", s.Finish(), api.OK)
	wantNext(t, s, 99, 99, data(4, b[4:], true), 6)
	wantErr(t, "Reset of a finished one", s.Reset(5, 10), api.OK)
	s.Lost(data(4, b[4:], true))
	wantNext(t, s, 99, 99, data(4, b[4:], false), 0)
	s.Lost(data(10, nil, true))
	wantNone(t, s, 99, 99)
	wantTurn(t, s, turned(5, 10, 10))

	// none was written
	s = send.New(one)
	wantErr(t, "Finish", s.Finish(), api.OK)
	wantErr(t, "Reset of a finished one", s.Reset(5, 0), api.OK)
	wantNone(t, s, 99, 99)
	wantTurn(t, s, turned(5, 0, 0))
}

// TestResetDone: 13.1, one that is Done is reset no more, with no sure and no code; it is told as it was.
func TestResetDone(t *testing.T) {
	b := text(10)
	s := filled(t, 10, 0)
	wantErr(t, "Finish", s.Finish(), api.OK)
	wantNext(t, s, 99, 99, data(0, b, true), 10)
	s.Acked(data(0, b, true))
	for _, sure := range []int{0, 1, 10} {
		wantErr(t, "Reset of one that is Done", s.Reset(1, sure), api.ErrState)
	}
	wantNoTurn(t, s)
	wantDone(t, s, true)

	s = filled(t, 10, 10)
	wantErr(t, "Reset", s.Reset(3, 4), api.OK)
	wantTurn(t, s, turned(3, 10, 4))
	s.Acked(data(0, b[:4], false))
	wantDone(t, s, false)
	wantErr(t, "Reset with more", s.Reset(1, 5), api.ErrState)
	s.Acked(turned(3, 10, 4))
	wantDone(t, s, true)
	for _, sure := range []int{0, 3, 4, 5, 10} {
		wantErr(t, "Reset of one that is Done", s.Reset(3, sure), api.ErrState)
	}
	wantNoTurn(t, s)
	wantDone(t, s, true)

	// Fin and all bytes came of one that is reset, and finished: it is Done.
	s = filled(t, 10, 0)
	wantErr(t, "Finish", s.Finish(), api.OK)
	wantNext(t, s, 99, 99, data(0, b, true), 10)
	wantErr(t, "Reset", s.Reset(3, 9), api.OK)
	s.Acked(data(0, b, true))
	wantDone(t, s, true)
	wantErr(t, "Reset of one that is Done", s.Reset(3, 1), api.ErrState)
}

// TestRoom: 13.2, as many bytes as go into room, for each room, at IDs and Offs of each length.
func TestRoom(t *testing.T) {
	b := text(4000)
	for _, id := range []int{0, 63, 64, 16383, 16384, 1<<30 - 1, 1 << 30, api.Most} {
		for _, off := range []int{0, 1, 62, 63, 64, 65, 300, 3900, 3990, 3999} {
			for room := -2; room < 150; room++ {
				s := send.New(id)
				s.Raise(9999)
				wantErr(t, "Write", s.Write(b), api.OK)
				for s.Used < off {
					s.Next(999, off-s.Used)
				}
				n := min(120, 4000-off)
				for n > 0 && laid(id, off, n) > room {
					n--
				}
				if n == 0 {
					wantNone(t, s, room, 9999)
					continue
				}
				w := api.Frame{Kind: api.Stream, ID: id, Off: off, Data: b[off : off+n]}
				wantNext(t, s, room, 9999, w, n)
				if size := frame.Size(w); size != laid(id, off, n) || size > room {
					t.Fatalf("13.2: room %d: %d", room, size)
				}
				s.Lost(w)
				wantNext(t, s, room, 0, w, 0)
			}
		}
	}
}

// TestOneByte: 13.2, room for just one byte, for the frame's head alone, for none; what did not go in goes the next time.
func TestOneByte(t *testing.T) {
	b := text(10)
	for _, lost := range []bool{false, true} {
		s, fresh := filled(t, 10, 0), 1
		if lost {
			s, fresh = filled(t, 10, 10), 0
			s.Lost(data(0, b, false))
		}
		for _, room := range []int{5, 4, 3, 1, 0, -1, math.MinInt} {
			wantNone(t, s, room, 99)
		}
		wantNext(t, s, 6, 99, data(0, b[:1], false), fresh)
		wantNone(t, s, 5, 99)
		wantNext(t, s, 6, 99, data(1, b[1:2], false), fresh)
		wantNext(t, s, 7, 99, data(2, b[2:4], false), 2*fresh)
		wantNext(t, s, math.MaxInt, 99, data(4, b[4:], false), 6*fresh)
		wantNone(t, s, math.MaxInt, 99)
	}
}

// TestMost: 13.2, at most most bytes above the top; one of 0 or below lets none.
func TestMost(t *testing.T) {
	b := text(300)
	s := filled(t, 300, 0)
	for _, most := range []int{0, -1, -120, math.MinInt} {
		wantNone(t, s, 999, most)
	}
	at := 0
	for _, most := range []int{1, 2, 63, 64, 65} {
		wantNext(t, s, 999, most, data(at, b[at:at+most], false), most)
		at += most
	}
	wantNext(t, s, 10, 4, data(at, b[at:at+4], false), 4)
	wantNext(t, s, 10, 5, data(at+4, b[at+4:at+8], false), 4)
	at += 8
	wantNext(t, s, 999, 98-1, data(at, b[at:at+97], false), 97)
	wantNone(t, s, 999, 0)
	wantNone(t, s, 999, math.MaxInt)
}

// TestLeft: 13.2, most less than, as much as, and more than Left(); none beyond it, and further where it is raised.
func TestLeft(t *testing.T) {
	b := text(1000)
	for most, n := range map[int]int{9: 9, 10: 10, 11: 10, 120: 10, math.MaxInt: 10, 1: 1} {
		s := send.New(one)
		wantErr(t, "Write", s.Write(b), api.OK)
		for s.Used < 390 {
			s.Next(999, 390-s.Used)
		}
		wantNext(t, s, 999, most, data(390, b[390:390+n], false), n)
		if n < 10 {
			wantNext(t, s, 999, 999, data(390+n, b[390+n:400], false), 10-n)
		}
		if s.Left() != 0 {
			t.Fatalf("13.1: Left %d", s.Left())
		}
		wantNone(t, s, 999, 999)
		if s.Raise(400) || !s.Raise(403) || s.Left() != 3 {
			t.Fatalf("13.1: Raise: %+v", s.Credit)
		}
		wantNext(t, s, 999, 2, data(400, b[400:402], false), 2)
		wantNext(t, s, 999, 2, data(402, b[402:403], false), 1)
		wantNone(t, s, 999, 2)
		// What is lost wants no credit.
		s.Lost(data(399, b[399:403], false))
		wantNext(t, s, 999, 0, data(399, b[399:403], false), 0)
		wantNone(t, s, 999, 999)
	}
}

// TestMaxData: 13.2, more than MaxData bytes at hand, fresh and lost, just as many, and one less.
func TestMaxData(t *testing.T) {
	for _, size := range []int{119, 120, 121, 240, 241} {
		b := text(size)
		s := filled(t, size, 0)
		for _, fresh := range []int{1, 0} {
			for at := 0; at < size; at += 120 {
				n := min(120, size-at)
				wantNext(t, s, math.MaxInt, 120*fresh, data(at, b[at:at+n], false), n*fresh)
			}
			wantNone(t, s, 999, 999)
			s.Lost(data(0, b, false))
		}
	}
}

// TestLeast: 13.2, of most, Left(), MaxData, room, and what there is, the least counts.
func TestLeast(t *testing.T) {
	numbers := []int{0, 1, 7, 63, 64, 119, 120, 121}
	for _, most := range numbers {
		for _, left := range numbers {
			for _, room := range numbers {
				for _, there := range numbers {
					s := send.New(one)
					s.Limit = left
					wantErr(t, "Write", s.Write(text(there)), api.OK)
					n := min(most, left, there, 120)
					if n > 63 && room < n+1 {
						n = max(63, room-1)
					}
					n = min(n, room)
					if n == 0 {
						wantNone(t, s, room+5, most)
					} else {
						wantNext(t, s, room+5, most, data(0, text(n), false), n)
					}
				}
			}
		}
	}
}

// TestRuns: 13.2, of the runs of lost bytes the first one goes first, whenever it was lost, and that alone; fresh bytes wait.
func TestRuns(t *testing.T) {
	b := text(100)
	s := filled(t, 100, 60)
	s.Lost(data(40, b[40:45], false))
	s.Lost(data(10, b[10:20], false))
	s.Lost(data(30, b[30:31], false))
	wantNext(t, s, 999, 999, data(10, b[10:20], false), 0)
	wantNext(t, s, 999, 999, data(30, b[30:31], false), 0)
	s.Lost(data(0, b[:1], false))
	wantNext(t, s, 999, 999, data(0, b[:1], false), 0)
	wantNext(t, s, 999, 999, data(40, b[40:45], false), 0)
	// a run that ends at the top takes none beyond it along
	s.Lost(data(58, b[58:60], false))
	wantNext(t, s, 999, 999, data(58, b[58:60], false), 0)
	wantNext(t, s, 999, 999, data(60, b[60:], false), 40)
	wantNone(t, s, 999, 999)
}

// TestRunsJoin: 13.2, runs that touch, or overlap, are one; one byte between them that came, or is not lost, and they are two.
func TestRunsJoin(t *testing.T) {
	b := text(30)
	s := filled(t, 30, 30)
	s.Lost(data(10, b[10:15], false))
	s.Lost(data(15, b[15:20], false))
	s.Lost(data(5, b[5:12], false))
	wantNext(t, s, 999, 0, data(5, b[5:20], false), 0)
	s.Lost(data(10, b[10:15], false))
	s.Lost(data(16, b[16:20], false))
	wantNext(t, s, 999, 0, data(10, b[10:15], false), 0)
	wantNext(t, s, 999, 0, data(16, b[16:20], false), 0)
	s.Acked(data(12, b[12:13], false))
	s.Lost(data(10, b[10:20], false))
	wantNext(t, s, 999, 0, data(10, b[10:12], false), 0)
	wantNext(t, s, 999, 0, data(13, b[13:20], false), 0)
	wantNone(t, s, 999, 0)
}

// TestLongRun: 13.2, two runs of lost bytes, the first one longer than room: it goes on ahead of the second one.
func TestLongRun(t *testing.T) {
	b := text(400)
	s := filled(t, 400, 390)
	s.Lost(data(200, b[200:210], false))
	s.Lost(data(5, b[5:20], false))
	wantNext(t, s, 12, 99, data(5, b[5:12], false), 0)
	wantNone(t, s, 5, 99)
	wantNext(t, s, 12, 99, data(12, b[12:19], false), 0)
	wantNext(t, s, 12, 99, data(19, b[19:20], false), 0)
	wantNext(t, s, 12, 99, data(200, b[200:206], false), 0)
	wantNext(t, s, 13, 99, data(206, b[206:210], false), 0)
	wantNext(t, s, 13, 99, data(390, b[390:397], false), 7)

	// and longer than MaxData
	s.Lost(data(300, b[300:302], false))
	s.Lost(data(0, b[:250], false))
	for _, w := range [][2]int{{0, 120}, {120, 240}, {240, 250}, {300, 302}} {
		wantNext(t, s, 999, 99, data(w[0], b[w[0]:w[1]], false), 0)
	}
	wantNext(t, s, 999, 99, data(397, b[397:], false), 3)
	wantNone(t, s, 999, 99)
}

// TestLostBlocks: 13.2, where the first run does not go into room, nothing goes; most does not bound what is lost.
func TestLostBlocks(t *testing.T) {
	b := text(100)
	s := filled(t, 100, 90)
	s.Lost(data(70, b[70:72], false))
	wantNone(t, s, 6, 99)
	wantNone(t, s, math.MinInt, 99)
	wantNext(t, s, 8, math.MinInt, data(70, b[70:72], false), 0)
	s.Lost(data(70, b[70:90], false))
	wantNext(t, s, 99, -1, data(70, b[70:90], false), 0)
	wantNext(t, s, 8, 99, data(90, b[90:92], false), 2)
	s.Lost(data(70, b[70:90], false))
	wantNext(t, s, 99, 1, data(70, b[70:90], false), 0)
	wantNext(t, s, 99, 1, data(92, b[92:93], false), 1)
}

// TestSure: 13.2, of a reset one bytes below sure alone go: lost ones, cut where sure is, and fresh ones.
func TestSure(t *testing.T) {
	b := text(100)
	for sure := range 101 {
		s := filled(t, 100, 60)
		s.Lost(data(50, b[50:55], false))
		s.Lost(data(20, b[20:30], false))
		wantErr(t, "Reset", s.Reset(1, sure), api.OK)
		for _, run := range [][2]int{{20, 30}, {50, 55}} {
			if to := min(run[1], sure); to > run[0] {
				wantNext(t, s, 999, 999, data(run[0], b[run[0]:to], false), 0)
			}
		}
		if sure > 60 {
			wantNoTurn(t, s)
			wantNext(t, s, 999, 999, data(60, b[60:sure], false), sure-60)
		}
		wantNone(t, s, 999, 999)
		wantTurn(t, s, turned(1, max(60, sure), sure))
		s.Lost(data(0, b, false))
		for at := 0; at < sure; at += 57 {
			to := min(at+57, sure)
			wantNext(t, s, laid(one, at, 57), 999, data(at, b[at:to], false), 0)
		}
		wantNone(t, s, 999, 999)
	}
}

// TestSureBounds: 13.2, fresh bytes below sure go as far as most, Left(), MaxData and room let.
func TestSureBounds(t *testing.T) {
	b := text(500)
	s := send.New(one)
	wantErr(t, "Write", s.Write(b), api.OK)
	wantErr(t, "Reset", s.Reset(1, 450), api.OK)
	wantNone(t, s, 999, 0)
	wantNext(t, s, 999, 999, data(0, b[:120], false), 120)
	wantNext(t, s, 16, 999, data(120, b[120:130], false), 10)
	wantNext(t, s, 999, 5, data(130, b[130:135], false), 5)
	for s.Used < 399 {
		s.Next(999, 399-s.Used)
	}
	wantNext(t, s, 999, 5, data(399, b[399:400], false), 1)
	wantNone(t, s, 999, 5)
	wantNoTurn(t, s)
	s.Raise(449)
	wantNext(t, s, 999, 99, data(400, b[400:449], false), 49)
	wantNoTurn(t, s)
	// sure falls to the top: no byte goes any more, and the Reset may
	wantErr(t, "Reset", s.Reset(1, 449), api.OK)
	s.Raise(500)
	wantNone(t, s, 999, 99)
	wantTurn(t, s, turned(1, 449, 449))
}

// TestLostAboveSure: 13.2, lost bytes that are not below sure are no hindrance: not to fresh ones, nor to Turn, nor to Done.
func TestLostAboveSure(t *testing.T) {
	b := text(100)
	s := filled(t, 100, 60)
	s.Lost(data(40, b[40:60], false))
	wantErr(t, "Reset", s.Reset(1, 40), api.OK)
	wantNone(t, s, 999, 999)
	wantTurn(t, s, turned(1, 60, 40))
	s.Acked(turned(1, 60, 40))
	wantDone(t, s, false)
	s.Acked(data(0, b[:40], false))
	wantDone(t, s, true)

	s = filled(t, 100, 60)
	s.Lost(data(39, b[39:60], false))
	wantErr(t, "Reset", s.Reset(1, 40), api.OK)
	wantNext(t, s, 999, 999, data(39, b[39:40], false), 0)
	wantNone(t, s, 999, 999)
	s.Lost(data(39, b[39:60], false))
	wantErr(t, "Reset", s.Reset(1, 39), api.OK)
	wantNone(t, s, 999, 999)
}

// TestFin: 13.2, Fin on the frame that ends at the end, not on one that ends one ahead of it, nor on one that is not finished.
func TestFin(t *testing.T) {
	b := text(10)
	for most := 1; most <= 11; most++ {
		s := filled(t, 10, 0)
		wantErr(t, "Finish", s.Finish(), api.OK)
		n := min(most, 10)
		wantNext(t, s, 99, most, data(0, b[:n], n == 10), n)
		if n < 10 {
			wantNext(t, s, 99, 99, data(n, b[n:], true), 10-n)
		}
		wantNone(t, s, 99, 99)
		// lost bytes, likewise
		s.Lost(data(0, b, false))
		wantNext(t, s, 5+n, 0, data(0, b[:n], n == 10), 0)
		if n < 10 {
			wantNext(t, s, 99, 0, data(n, b[n:], true), 0)
		}
		wantNone(t, s, 99, 99)
	}
	s := filled(t, 10, 10)
	wantNone(t, s, 99, 99)
	s.Lost(data(0, b, false))
	wantNext(t, s, 99, 0, data(0, b, false), 0)
	wantErr(t, "Finish", s.Finish(), api.OK)
	s.Lost(data(0, b[:9], false))
	wantNext(t, s, 99, 0, data(0, b[:9], false), 0)
	wantNext(t, s, 99, 0, data(10, nil, true), 0)
	s.Lost(data(9, b[9:], false))
	wantNext(t, s, 99, 0, data(9, b[9:], true), 0)
}

// TestFinAlone: 13.2, Fin without bytes, where all were sent: into room just, and not quite, at IDs and ends of each length; once.
func TestFinAlone(t *testing.T) {
	for _, id := range []int{0, 63, 64, 16384, 1 << 30, api.Most} {
		for _, end := range []int{0, 1, 63, 64, 4000} {
			s := send.New(id)
			s.Raise(9999)
			wantErr(t, "Write", s.Write(text(end)), api.OK)
			for s.Used < end {
				s.Next(999, 999)
			}
			wantErr(t, "Finish", s.Finish(), api.OK)
			w := api.Frame{Kind: api.Stream, ID: id, Off: end, Fin: true}
			room := frame.Size(w)
			if room != laid(id, end, 0) {
				t.Fatalf("13.2: %+v: %d bytes", w, room)
			}
			for range 2 {
				for _, small := range []int{room - 1, 1, 0, -1, math.MinInt} {
					wantNone(t, s, small, 99)
				}
				wantNext(t, s, room, math.MinInt, w, 0)
				wantNone(t, s, 999, 99)
				s.Lost(w)
			}
			wantNext(t, s, math.MaxInt, math.MaxInt, w, 0)
			s.Acked(w)
			s.Lost(w)
			wantNone(t, s, 999, 99)
			wantDone(t, s, end == 0)
		}
	}
}

// TestFinWaits: 13.2, Fin alone waits until all bytes have been sent, and none is lost; it asks no credit, and no most.
func TestFinWaits(t *testing.T) {
	b := text(410)
	s := send.New(one)
	wantErr(t, "Write", s.Write(b), api.OK)
	wantErr(t, "Finish", s.Finish(), api.OK)
	for s.Used < 400 {
		s.Next(999, 999)
	}
	wantNone(t, s, 999, 999)
	s.Raise(410)
	wantNone(t, s, 999, 0)
	wantNext(t, s, 999, 9, data(400, b[400:409], false), 9)
	wantNone(t, s, 999, 0)
	wantNext(t, s, 999, 9, data(409, b[409:], true), 1)
	if s.Left() != 0 {
		t.Fatalf("13.1: Left %d", s.Left())
	}
	s.Lost(data(410, nil, true))
	s.Lost(data(3, b[3:5], false))
	s.Lost(data(8, b[8:9], false))
	wantNext(t, s, 999, 0, data(3, b[3:5], false), 0)
	wantNone(t, s, 5, 0)
	wantNext(t, s, 999, 0, data(8, b[8:9], false), 0)
	wantNext(t, s, 6, 0, data(410, nil, true), 0)
	wantNone(t, s, 999, 999)
}

// TestFinLost: 13.2, 13.3, Fin lost while its bytes came, and bytes lost while Fin came.
func TestFinLost(t *testing.T) {
	b := text(10)
	begin := func() *send.Stream {
		s := filled(t, 10, 0)
		wantErr(t, "Finish", s.Finish(), api.OK)
		wantNext(t, s, 99, 99, data(0, b, true), 10)
		return s
	}
	s := begin()
	s.Acked(data(0, b, false))
	wantDone(t, s, false)
	wantNone(t, s, 99, 99)
	s.Lost(data(0, b, true))
	wantNext(t, s, 99, 99, data(10, nil, true), 0)
	wantNone(t, s, 99, 99)
	s.Lost(data(10, nil, true))
	wantNext(t, s, 99, 99, data(10, nil, true), 0)
	wantDone(t, s, false)
	s.Acked(data(10, nil, true))
	wantDone(t, s, true)
	s.Lost(data(10, nil, true))
	s.Lost(data(0, b, true))
	wantNone(t, s, 99, 99)

	s = begin()
	s.Acked(data(10, nil, true))
	wantDone(t, s, false)
	s.Lost(data(0, b, true))
	wantNext(t, s, 14, 99, data(0, b[:9], false), 0)
	wantNext(t, s, 99, 99, data(9, b[9:], true), 0)
	wantNone(t, s, 99, 99)
	s.Acked(data(0, b[:9], false))
	wantDone(t, s, false)
	// its Fin came, whatever is told of it again
	s.Lost(data(10, nil, true))
	wantNone(t, s, 99, 99)
	s.Acked(data(9, b[9:], false))
	wantDone(t, s, true)

	// lost along with the bytes, and told along with the last of them: there is no more to tell
	s = begin()
	s.Lost(data(0, b, true))
	wantNext(t, s, 99, 0, data(0, b, true), 0)
	wantNone(t, s, 99, 99)
	s.Lost(data(0, b[:5], false))
	wantNext(t, s, 99, 0, data(0, b[:5], false), 0)
	wantNone(t, s, 99, 99)
	s.Lost(data(5, b[5:], true))
	s.Acked(data(10, nil, true))
	wantNext(t, s, 99, 0, data(5, b[5:], true), 0)
	wantNone(t, s, 99, 99)

	// lost, and then come after all
	s = begin()
	s.Lost(data(10, nil, true))
	s.Acked(data(0, b, true))
	wantNone(t, s, 99, 99)
	wantDone(t, s, true)
}

// TestTurn: 13.2, ahead of the top's coming to sure, behind it, twice, behind its loss, behind a Reset anew.
func TestTurn(t *testing.T) {
	b := text(100)
	s := filled(t, 100, 30)
	wantNoTurn(t, s)
	wantErr(t, "Reset", s.Reset(7, 40), api.OK)
	wantNoTurn(t, s)
	wantNext(t, s, 99, 9, data(30, b[30:39], false), 9)
	wantNoTurn(t, s)
	wantNext(t, s, 99, 9, data(39, b[39:40], false), 1)
	wantTurn(t, s, turned(7, 40, 40))
	s.Lost(turned(7, 40, 40))
	wantTurn(t, s, turned(7, 40, 40))
	s.Lost(turned(7, 40, 40))
	s.Lost(turned(7, 40, 40))
	wantErr(t, "Reset anew", s.Reset(8, 20), api.OK)
	wantTurn(t, s, turned(7, 40, 20))
	wantErr(t, "Reset anew", s.Reset(8, 19), api.OK)
	s.Lost(turned(7, 40, 20))
	wantTurn(t, s, turned(7, 40, 19))
	s.Acked(turned(7, 40, 19))
	wantNoTurn(t, s)
	s.Lost(turned(7, 40, 19))
	wantNoTurn(t, s)
	wantErr(t, "Reset anew, come", s.Reset(8, 3), api.OK)
	wantTurn(t, s, turned(7, 40, 3))
	wantDone(t, s, false)

	// not told yet, ahead of sure; a lesser sure lets it go
	s = filled(t, 100, 30)
	wantErr(t, "Reset", s.Reset(0, 100), api.OK)
	wantNoTurn(t, s)
	wantErr(t, "Reset", s.Reset(0, 31), api.OK)
	wantNoTurn(t, s)
	wantErr(t, "Reset", s.Reset(0, 30), api.OK)
	wantTurn(t, s, turned(0, 30, 30))

	// what is lost below sure is no hindrance
	s = filled(t, 100, 30)
	s.Lost(data(0, b[:30], false))
	wantErr(t, "Reset", s.Reset(api.Most, 30), api.OK)
	wantTurn(t, s, turned(api.Most, 30, 30))
	wantNext(t, s, 99, 99, data(0, b[:30], false), 0)
}

// TestTurnFinished: 13.2, one that is finished, but not reset, has no Turn, wherever it stands.
func TestTurnFinished(t *testing.T) {
	s := filled(t, 10, 0)
	wantErr(t, "Finish", s.Finish(), api.OK)
	wantNoTurn(t, s)
	wantNext(t, s, 99, 99, data(0, text(10), true), 10)
	wantNoTurn(t, s)
	s.Lost(turned(0, 10, 0))
	wantNoTurn(t, s)
	s.Acked(turned(0, 10, 0))
	wantDone(t, s, false)
	s.Acked(data(0, text(10), true))
	wantNoTurn(t, s)
}

// TestResetComes: 13.3, Acked and Lost of a Reset with this sure, with another one, and of one that was not told.
func TestResetComes(t *testing.T) {
	s := filled(t, 10, 10)
	s.Acked(turned(7, 10, 0))
	s.Lost(turned(7, 10, 0))
	wantErr(t, "Reset", s.Reset(7, 0), api.OK)
	wantDone(t, s, false)
	// not told yet
	s.Acked(turned(7, 10, 0))
	wantDone(t, s, false)
	s.Lost(turned(7, 10, 0))
	s.Acked(turned(7, 10, 0))
	wantDone(t, s, false)
	wantTurn(t, s, turned(7, 10, 0))
	for _, sure := range []int{1, 10, -1, math.MinInt, math.MaxInt} {
		s.Acked(turned(7, 10, sure))
		wantDone(t, s, false)
		s.Lost(turned(7, 10, sure))
		wantNoTurn(t, s)
	}
	s.Acked(turned(7, 10, 0))
	wantDone(t, s, true)
	s.Acked(turned(7, 10, 0))
	wantDone(t, s, true)

	// with a sure that was, but is not this one any more
	s = filled(t, 10, 10)
	wantErr(t, "Reset", s.Reset(7, 3), api.OK)
	wantTurn(t, s, turned(7, 10, 3))
	s.Acked(data(0, text(10), false))
	wantErr(t, "Reset", s.Reset(7, 2), api.OK)
	s.Acked(turned(7, 10, 3))
	wantDone(t, s, false)
	s.Acked(turned(7, 10, 2))
	wantDone(t, s, false)
	wantTurn(t, s, turned(7, 10, 2))
	s.Lost(turned(7, 10, 3))
	wantNoTurn(t, s)
	s.Acked(turned(7, 10, 3))
	wantDone(t, s, false)
	// lost, and then come after all
	s.Lost(turned(7, 10, 2))
	s.Acked(turned(7, 10, 2))
	wantDone(t, s, true)
	wantNoTurn(t, s)

	// what came of another sure does not count for this one
	s = filled(t, 10, 10)
	wantErr(t, "Reset", s.Reset(7, 3), api.OK)
	wantTurn(t, s, turned(7, 10, 3))
	s.Acked(turned(7, 10, 3))
	wantDone(t, s, false)
	wantErr(t, "Reset", s.Reset(7, 0), api.OK)
	wantDone(t, s, false)
	wantTurn(t, s, turned(7, 10, 0))
	s.Acked(turned(7, 10, 0))
	wantDone(t, s, true)
}

// TestCame: 13.3, what came and is then told to be lost, or acknowledged twice, and what was lost and came after all.
func TestCame(t *testing.T) {
	b := text(20)
	s := filled(t, 20, 20)
	s.Acked(data(5, b[5:10], false))
	s.Acked(data(5, b[5:10], false))
	s.Lost(data(5, b[5:10], false))
	s.Lost(data(6, b[6:7], false))
	wantNone(t, s, 99, 99)
	s.Lost(data(0, b, false))
	wantNext(t, s, 99, 99, data(0, b[:5], false), 0)
	wantNext(t, s, 99, 99, data(10, b[10:], false), 0)
	wantNone(t, s, 99, 99)
	s.Lost(data(0, b, false))
	s.Acked(data(2, b[2:12], false))
	s.Acked(data(2, b[2:3], false))
	wantNext(t, s, 99, 99, data(0, b[:2], false), 0)
	wantNext(t, s, 99, 99, data(12, b[12:], false), 0)
	wantNone(t, s, 99, 99)
	s.Acked(data(0, b, false))
	s.Lost(data(0, b, false))
	wantNone(t, s, 99, 99)
	wantErr(t, "Finish", s.Finish(), api.OK)
	wantNext(t, s, 99, 99, data(20, nil, true), 0)
	wantDone(t, s, false)
	s.Acked(data(20, nil, true))
	wantDone(t, s, true)
}

// TestLostAgain: 13.3, what is lost is lost again, as often as it is told, until it came.
func TestLostAgain(t *testing.T) {
	b := text(20)
	s := filled(t, 20, 20)
	for range 5 {
		s.Lost(data(3, b[3:9], false))
		s.Lost(data(3, b[3:9], false))
		wantNext(t, s, 99, 99, data(3, b[3:9], false), 0)
		wantNone(t, s, 99, 99)
	}
	s.Acked(data(3, b[3:9], false))
	s.Lost(data(3, b[3:9], false))
	wantNone(t, s, 99, 99)
}

// TestPieces: 13.3, a frame's bytes count by their places, in whatever pieces they were sent, and are told.
func TestPieces(t *testing.T) {
	b := text(12)
	for cut := 1; cut < 12; cut++ {
		s := filled(t, 12, 0)
		wantErr(t, "Finish", s.Finish(), api.OK)
		wantNext(t, s, 99, cut, data(0, b[:cut], false), cut)
		wantNext(t, s, 99, 99, data(cut, b[cut:], true), 12-cut)
		for _, to := range []int{3, 6, 9, 12} {
			wantDone(t, s, false)
			s.Acked(data(to-3, b[to-3:to], to == 12))
		}
		wantDone(t, s, true)
	}
}

// others are frames that tell a stream nothing of which 5 of 10 bytes were sent: of another ID, of another Kind, of what was not sent or told.
func others() []api.Frame {
	b := text(10)
	l := []api.Frame{
		{}, {Kind: api.Stream, ID: one + 1, Data: b[:5]}, {Kind: api.Stream, Data: b[:5]}, {Kind: api.Stream, ID: -one, Data: b[:5]}, {Kind: api.Stream, ID: math.MinInt, Data: b[:5], Fin: true},
		{Kind: api.Reset, ID: one + 1, A: 7, Off: 5}, {Kind: api.Reset, A: 7, Off: 5}, turned(7, 5, 0), turned(0, 0, 0), turned(7, 5, 5), turned(7, 10, 10),
		data(5, b[5:], false), data(6, b[6:], false), data(10, nil, false), data(10, b, false), data(4000, b, false), data(5, b[5:], true), data(10, nil, true), data(0, nil, true), data(5, nil, true), data(0, nil, false),
		data(-5, b[:5], false), data(-10, b, false), data(-10, b, true), data(-1, nil, true),
	}
	for kind := range 16 {
		if kind != api.Stream && kind != api.Reset {
			l = append(l, api.Frame{Kind: kind - 1, ID: one, A: 7, Off: 0, Data: b}, api.Frame{Kind: kind, ID: one, Fin: true, Data: b[:5]})
		}
	}
	for _, off := range ends() {
		if off < -9 || off > 0 {
			l = append(l, data(off, b, false), data(off, b, true), data(off, nil, true), data(off, make([]byte, 120), true))
		}
	}
	return slices.DeleteFunc(l, func(f api.Frame) bool { return f.Kind == api.Stream && f.ID == one && f.Off == 0 && len(f.Data) > 0 })
}

// TestOthers: 13.3, frames of another ID, of another Kind, of what was not sent, or told, are nothing, whatever they hold.
func TestOthers(t *testing.T) {
	b := text(10)
	for k, f := range others() {
		for range 2 {
			// acknowledged, none of it came
			s := filled(t, 10, 5)
			s.Acked(f)
			s.Lost(data(0, b[:5], false))
			wantNext(t, s, 99, 0, data(0, b[:5], false), 0)
			wantNext(t, s, 99, 99, data(5, b[5:], false), 5)
			wantErr(t, "Finish", s.Finish(), api.OK)
			s.Acked(data(0, b, true))
			wantNoTurn(t, s)
			if s.Done() {
				t.Fatalf("13.3: frame %d, %+v: Fin came, and was not told", k, f)
			}
			wantNext(t, s, 99, 99, data(10, nil, true), 0)
			wantDone(t, s, false)

			// lost, none of it is
			s = filled(t, 10, 5)
			s.Lost(f)
			wantNone(t, s, 99, 0)
			wantNoTurn(t, s)
			wantNext(t, s, 99, 99, data(5, b[5:], false), 5)
			wantNone(t, s, 99, 0)
			wantErr(t, "Finish", s.Finish(), api.OK)
			wantNext(t, s, 99, 99, data(10, nil, true), 0)
			wantNone(t, s, 99, 0)
			s.Acked(data(0, b, true))
			wantDone(t, s, true)
			f.Note, f.Spans = 5, [][2]int{{1, 2}}
		}
	}
}

// TestOthersTold: 13.3, frames of another ID, or of another Kind, are nothing to a Fin, or a Reset, that was told.
func TestOthersTold(t *testing.T) {
	b := text(10)
	type ask struct{ kind, id int }
	asks := []ask{{api.Stream, one - 1}, {api.Stream, one + 1}, {api.Stream, 0}, {api.Stream, -one}, {api.Stream, math.MinInt}, {api.Stream, math.MaxInt}}
	for kind := -1; kind < 16; kind++ {
		if kind != api.Stream && kind != api.Reset {
			asks = append(asks, ask{kind, one})
		}
	}
	for _, a := range append(asks, ask{api.Reset, one}) {
		s := filled(t, 10, 0)
		wantErr(t, "Finish", s.Finish(), api.OK)
		wantNext(t, s, 99, 99, data(0, b, true), 10)
		s.Acked(data(0, b, false))
		for _, f := range []api.Frame{{Kind: a.kind, ID: a.id, Off: 10, Fin: true}, {Kind: a.kind, ID: a.id, Fin: true, Data: b}} {
			s.Acked(f)
			wantDone(t, s, false)
			s.Lost(f)
			wantNone(t, s, 99, 99)
		}
		s.Acked(data(10, nil, true))
		wantDone(t, s, true)
	}
	for _, a := range append(asks, ask{api.Reset, one - 1}, ask{api.Reset, one + 1}, ask{api.Reset, 0}, ask{api.Reset, math.MinInt}, ask{api.Reset, math.MaxInt}, ask{api.Stream, one}) {
		for _, sure := range []int{0, 3} {
			s := filled(t, 10, 10)
			s.Acked(data(0, b, false))
			wantErr(t, "Reset", s.Reset(7, sure), api.OK)
			wantTurn(t, s, turned(7, 10, sure))
			for _, f := range []api.Frame{{Kind: a.kind, ID: a.id, A: 7, Off: 10, B: sure}, {Kind: a.kind, ID: a.id, B: sure}, {Kind: a.kind, ID: a.id, B: sure, Fin: true, Data: b}} {
				s.Acked(f)
				wantDone(t, s, false)
				s.Lost(f)
				wantNoTurn(t, s)
			}
			s.Acked(turned(7, 10, sure))
			wantDone(t, s, true)
		}
	}
}

// TestPartSent: 13.3, of a frame that was sent in part that part counts; a Note is nothing to it.
func TestPartSent(t *testing.T) {
	b := text(10)
	for from := -3; from <= 10; from++ {
		for to := from; to <= 13; to++ {
			f := data(from, make([]byte, to-from), false)
			f.Note = from
			least, most := max(from, 0), min(to, 5)
			s := filled(t, 10, 5)
			s.Lost(f)
			if least < most {
				wantNext(t, s, 99, 0, data(least, b[least:most], false), 0)
			}
			wantNone(t, s, 99, 0)
			s.Acked(f)
			s.Lost(data(0, b[:5], false))
			if least >= most {
				least, most = 5, 5
			}
			if least > 0 {
				wantNext(t, s, 99, 0, data(0, b[:least], false), 0)
			}
			if most < 5 {
				wantNext(t, s, 99, 0, data(most, b[most:5], false), 0)
			}
			wantNone(t, s, 99, 0)
			wantNext(t, s, 99, 99, data(5, b[5:], false), 5)
		}
	}
}

// TestFinElsewhere: 13.3, a Fin at another place than the end was not told; one behind other bytes at the end was.
func TestFinElsewhere(t *testing.T) {
	b := text(10)
	begin := func() *send.Stream {
		s := filled(t, 10, 0)
		wantErr(t, "Finish", s.Finish(), api.OK)
		wantNext(t, s, 99, 99, data(0, b, true), 10)
		s.Acked(data(0, b, false))
		return s
	}
	for off := -2; off <= 12; off++ {
		for n := 0; n <= 11; n++ {
			s := begin()
			s.Lost(data(off, make([]byte, n), true))
			if off+n == 10 {
				wantNext(t, s, 99, 99, data(10, nil, true), 0)
			}
			wantNone(t, s, 99, 99)
			s.Acked(data(off, make([]byte, n), true))
			wantDone(t, s, off+n == 10)
			// without Fin nothing is said of it
			s = begin()
			s.Lost(data(off, make([]byte, n), false))
			wantNone(t, s, 99, 99)
			s.Acked(data(off, make([]byte, n), false))
			wantDone(t, s, false)
		}
	}
}

// TestDone: 13.3, finished: Fin and all bytes came; with one byte missing, whichever, with Fin missing, it is not.
func TestDone(t *testing.T) {
	b := text(30)
	for gap := range 30 {
		s := filled(t, 30, 0)
		wantErr(t, "Finish", s.Finish(), api.OK)
		wantNext(t, s, 99, 99, data(0, b, true), 30)
		s.Acked(data(0, b[:gap], false))
		s.Acked(data(30, nil, true))
		s.Acked(data(gap+1, b[gap+1:], false))
		wantDone(t, s, false)
		s.Lost(data(gap, b[gap:gap+1], false))
		wantDone(t, s, false)
		s.Acked(data(gap, b[gap:gap+1], false))
		wantDone(t, s, true)
		wantNone(t, s, 99, 99)
	}
	// all bytes came: that is not Fin, nor a Finish
	s := filled(t, 30, 30)
	s.Acked(data(0, b, false))
	wantDone(t, s, false)
	wantErr(t, "Finish", s.Finish(), api.OK)
	wantDone(t, s, false)
	wantNext(t, s, 99, 99, data(30, nil, true), 0)
	wantDone(t, s, false)
	s.Acked(data(30, nil, true))
	wantDone(t, s, true)
	// bytes that were not sent yet
	s = filled(t, 30, 29)
	wantErr(t, "Finish", s.Finish(), api.OK)
	s.Acked(data(0, b, true))
	wantDone(t, s, false)
	// of none written
	s = send.New(one)
	wantErr(t, "Finish", s.Finish(), api.OK)
	wantDone(t, s, false)
	wantNext(t, s, 99, 99, data(0, nil, true), 0)
	wantDone(t, s, false)
	s.Acked(data(0, nil, true))
	wantDone(t, s, true)
}

// TestDoneReset: 13.3, reset: its Reset and all bytes below sure came; with one of these missing, with the Reset missing, it is not.
func TestDoneReset(t *testing.T) {
	b := text(30)
	for sure := range 31 {
		for gap := range 30 {
			s := filled(t, 30, 30)
			wantErr(t, "Reset", s.Reset(1, sure), api.OK)
			wantTurn(t, s, turned(1, 30, sure))
			s.Acked(data(0, b[:gap], false))
			s.Acked(data(gap+1, b[gap+1:], false))
			wantDone(t, s, false)
			s.Acked(turned(1, 30, sure))
			wantDone(t, s, gap >= sure)
			s.Acked(data(gap, b[gap:gap+1], false))
			wantDone(t, s, true)
		}
		s := filled(t, 30, 30)
		wantErr(t, "Reset", s.Reset(1, sure), api.OK)
		s.Acked(data(0, b, false))
		wantDone(t, s, false)
		wantTurn(t, s, turned(1, 30, sure))
		wantDone(t, s, false)
		s.Lost(turned(1, 30, sure))
		wantDone(t, s, false)
	}
}

// TestFar: R1, the least and the greatest int for each argument, and for a frame's Off: nothing ends badly, and nothing turns round.
func TestFar(t *testing.T) {
	for _, room := range append(ends(), 0, 4, 5, 6, 128, 127) {
		for _, most := range append(ends(), 0, 1, 120) {
			w := newTwin(t, one)
			w.write(300)
			w.next(room, most)
			w.next(room, most)
			w.hears(data(0, text(200), false), false)
			w.next(room, most)
			w.finish()
			w.rest()
			if !w.s.Done() {
				t.Fatalf("13.3: room %d, most %d: not Done", room, most)
			}
		}
	}
	for _, off := range ends() {
		for _, n := range []int{0, 1, 3, 119, 120, 121, 5000} {
			for _, came := range []bool{true, false} {
				w := newTwin(t, one)
				w.write(150)
				w.next(999, 100)
				w.hears(data(off, make([]byte, n), false), came)
				w.hears(data(off, make([]byte, n), true), came)
				w.hears(api.Frame{Kind: api.Reset, ID: one, A: off, Off: off, B: off}, came)
				w.next(999, 0)
				w.hears(data(0, text(100), false), false)
				w.finish()
				w.rest()
				if !w.s.Done() {
					t.Fatalf("13.3: Off %d of %d bytes: not Done", off, n)
				}
			}
		}
		w := newTwin(t, one)
		w.raise(off)
		w.reset(off, 0)
		w.write(5)
		w.reset(0, off)
		w.rest()
	}
}

// TestOddID: R1, of an ID that is not one no frame may be laid: none goes, and nothing ends badly.
func TestOddID(t *testing.T) {
	for _, id := range []int{-1, math.MinInt, math.MaxInt, api.Most + 1} {
		s := send.New(id)
		wantErr(t, "Write", s.Write([]byte("abc")), api.OK)
		for _, room := range []int{math.MinInt, -2, -1, 0, 99, math.MaxInt} {
			wantNone(t, s, room, 99)
		}
		wantErr(t, "Finish", s.Finish(), api.OK)
		wantNone(t, s, 99, 99)
		s.Acked(api.Frame{Kind: api.Stream, ID: id, Data: []byte("abc"), Fin: true})
		s.Lost(api.Frame{Kind: api.Stream, ID: id, Data: []byte("abc"), Fin: true})
		wantNone(t, s, 99, 99)
		wantErr(t, "Reset", s.Reset(1, 0), api.OK)
		wantDone(t, s, false)
	}
}

// TestFields: R1, a Credit's fields set by a user, and a Use of his: every call ends, and no byte is told that was not written.
func TestFields(t *testing.T) {
	b := text(200)
	for _, used := range append(ends(), 0, 1, 100, 199, 200, 201, 4000, 4001) {
		for _, limit := range append(ends(), 0, 1, 100, 200, 400) {
			s := filled(t, 200, 150)
			s.Lost(data(100, b[100:120], false))
			s.Used, s.Limit = used, limit
			for range 5 {
				f, fresh, ok := s.Next(140, 60)
				if ok && (f.Off < 0 || f.Off+len(f.Data) > 200 || !bytes.Equal(f.Data, b[f.Off:f.Off+len(f.Data)]) || fresh < 0) || !ok && fresh != 0 {
					t.Fatalf("13.2: Used %d, Limit %d: %+v, %d, %v", used, limit, f, fresh, ok)
				}
				s.Lost(data(0, make([]byte, 300), true))
				s.Acked(f)
			}
			s.Finish()
			s.Next(140, 60)
			s.Acked(data(0, b, true))
			s.Done()
			s.Reset(1, 150)
			s.Next(140, 60)
			s.Turn()
			s.Done()
		}
	}
	// R5: there is no byte at a place below 0.
	for _, used := range []int{-1, -5, -200, -1 << 40, math.MinInt} {
		s := filled(t, 200, 0)
		s.Used = used
		wantNone(t, s, 999, 999)
		s.Lost(data(0, b, false))
		wantNone(t, s, 999, 999)
		s.Used = 0
		wantNext(t, s, 99, 7, data(0, b[:7], false), 7)
	}
	// The top is Used: what a user Uses counts as sent.
	s := filled(t, 10, 0)
	if !s.Use(4) || s.Use(math.MaxInt) || s.Use(-1) {
		t.Fatalf("13.1: Use: %+v", s.Credit)
	}
	wantNext(t, s, 99, 99, data(4, b[4:10], false), 6)
	s.Lost(data(0, b[:10], false))
	wantNext(t, s, 99, 99, data(0, b[:10], false), 0)
	wantErr(t, "Reset", s.Reset(2, 10), api.OK)
	wantTurn(t, s, turned(2, 10, 10))
	s = filled(t, 10, 4)
	s.Use(3)
	s.Use(7)
	wantNone(t, s, 99, 99)
	wantErr(t, "Finish", s.Finish(), api.OK)
	wantNext(t, s, 99, 99, data(10, nil, true), 0)
	wantNone(t, s, 99, 99)
}

// TestWrittenIsTheUsers: R2, a list that is changed behind Write, its spare room included, is not kept, nor is it changed.
func TestWrittenIsTheUsers(t *testing.T) {
	// one Write alone, and one behind another, of lists with spare room and without, changed before any of it is told
	for _, spare := range []int{0, 1, 9} {
		a, b := append(make([]byte, 0, 3+spare), "abc"...), append(make([]byte, 0, 2+spare), "de"...)
		s := send.New(one)
		wantErr(t, "Write", s.Write(a), api.OK)
		copy(a[:cap(a)], "XXXXXXXXXXXX")
		wantNext(t, s, 99, 99, data(0, []byte("abc"), false), 3)
		wantErr(t, "Write", s.Write(b), api.OK)
		copy(a[:cap(a)], "YYYYYYYYYYYY")
		copy(b[:cap(b)], "ZZZZZZZZZZZZ")
		wantNext(t, s, 99, 99, data(3, []byte("de"), false), 2)
		s.Lost(data(0, a[:3], false))
		s.Lost(data(3, b[:2], false))
		wantNext(t, s, 99, 0, data(0, []byte("abcde"), false), 0)
	}
	room := []byte("abcdefgh")
	s := send.New(one)
	wantErr(t, "Write", s.Write(room[:3]), api.OK)
	wantErr(t, "Write", s.Write(room[:2]), api.OK)
	wantNext(t, s, 7, 99, data(0, []byte("ab"), false), 2)
	if string(room) != "abcdefgh" {
		t.Fatalf("R2: written: %s", room)
	}
	copy(room, "01234567")
	wantErr(t, "Write", s.Write(room[1:2:2]), api.OK)
	copy(room, "XXXXXXXX")
	s.Lost(data(0, room[:2], false))
	wantNext(t, s, 99, 99, data(0, []byte("ab"), false), 0)
	wantNext(t, s, 99, 99, data(2, []byte("cab1"), false), 4)

	full := make([]byte, 3, 4096)
	wantErr(t, "Write", s.Write(full), api.OK)
	wantErr(t, "Write", s.Write([]byte("zz")), api.OK)
	wantErr(t, "Write too much", s.Write(full[:4000]), api.ErrFull)
	for k, c := range full[:4096] {
		if c != 0 {
			t.Fatalf("R2: written beside at %d", k)
		}
	}
	full[0], full[:4][3] = 'Q', 'Q'
	wantNext(t, s, 99, 99, data(6, []byte("\x00\x00\x00zz"), false), 5)
}

// TestToldIsNew: R2, a frame's Data that is changed behind Next, its spare room included, changes nothing; no two share any.
func TestToldIsNew(t *testing.T) {
	spoil := func(b []byte) {
		b = b[:cap(b)]
		for k := range b {
			b[k] = '#'
		}
	}
	b := text(50)
	s := filled(t, 50, 0)
	f, _, _ := s.Next(99, 20)
	spoil(f.Data)
	s.Lost(f)
	g, _, _ := s.Next(15, 0)
	h, _, _ := s.Next(99, 0)
	if !sameFrame(g, data(0, b[:10], false)) || !sameFrame(h, data(10, b[10:20], false)) {
		t.Fatalf("R2: told: %+v, %+v", g, h)
	}
	spoil(g.Data)
	_ = append(g.Data[:10], '!', '!', '!')
	if !sameFrame(h, data(10, b[10:20], false)) {
		t.Fatalf("R2: told: %+v", h)
	}
	spoil(h.Data)
	wantNext(t, s, 99, 99, data(20, b[20:], false), 30)
	s.Lost(data(0, b, false))
	wantNext(t, s, 99, 0, data(0, b, false), 0)
}

// TestFramesStand: R2, what Acked and Lost are handed is neither changed nor kept.
func TestFramesStand(t *testing.T) {
	b := text(20)
	room := slices.Clone(b)
	s := filled(t, 20, 20)
	f := data(2, room[2:8], false)
	f.Spans = [][2]int{{3, 4}, {1, 1}}
	s.Lost(f)
	s.Acked(data(4, room[4:5], false))
	if !bytes.Equal(room, b) || f.Off != 2 || !slices.Equal(f.Spans, [][2]int{{3, 4}, {1, 1}}) {
		t.Fatalf("R2: %v, %+v", room, f)
	}
	clear(room)
	wantNext(t, s, 99, 99, data(2, b[2:4], false), 0)
	wantNext(t, s, 99, 99, data(5, b[5:8], false), 0)
	if slices.ContainsFunc(room, func(c byte) bool { return c != 0 }) {
		t.Fatalf("R2: %v", room)
	}
}

// TestEmbedded: Ways, 13.1, a stream has the Credit's fields and methods, and is given its own Limit.
func TestEmbedded(t *testing.T) {
	s := filled(t, 10, 3)
	var c interface {
		Left() int
		Use(int) bool
		Raise(int) bool
	} = s
	if c.Left() != 1<<20-3 || c.Raise(1<<20) || !c.Raise(1<<20+1) || s.Credit.Left() != 1<<20-2 || s.Credit.Used != 3 || s.Used != 3 {
		t.Fatalf("13.1: its credit: %+v", s.Credit)
	}
	var kept *credit.Credit = &s.Credit
	kept.Limit = 5
	wantNext(t, s, 99, 99, data(3, text(5)[3:], false), 2)
	wantNone(t, s, 99, 99)
	if kept.Left() != 0 || s.Left() != 0 || kept.Used != 5 {
		t.Fatalf("13.1: its credit: %+v", s.Credit)
	}
	type whole struct{ *send.Stream }
	w := whole{s}
	w.Raise(7)
	if f, n, ok := w.Next(99, 99); !ok || n != 2 || f.Off != 5 || w.Size() != 10 || w.Used != 7 {
		t.Fatalf("13.2: embedded: %+v, %d, %v", f, n, ok)
	}
}

// TestApart: R7, two streams know nothing of one another, of the same number too.
func TestApart(t *testing.T) {
	a, b := filled(t, 10, 10), filled(t, 10, 10)
	c := send.New(one + 4)
	wantErr(t, "Write", c.Write([]byte("abc")), api.OK)
	a.Lost(data(3, text(10)[3:5], false))
	a.Raise(1 << 21)
	wantNone(t, b, 99, 99)
	wantErr(t, "Reset", b.Reset(1, 0), api.OK)
	wantNoTurn(t, a)
	wantErr(t, "Finish", a.Finish(), api.OK)
	wantNext(t, a, 99, 99, data(3, text(10)[3:5], false), 0)
	wantTurn(t, b, turned(1, 10, 0))
	b.Acked(turned(1, 10, 0))
	wantDone(t, b, true)
	wantDone(t, a, false)
	wantNext(t, c, 99, 99, api.Frame{Kind: api.Stream, ID: one + 4, Data: []byte("abc")}, 3)
	if b.Limit != 1<<20 || c.Limit != 400 || c.Used != 3 || a.Used != 10 {
		t.Fatalf("R7: %+v, %+v, %+v", a.Credit, b.Credit, c.Credit)
	}
}

// step does one of a small stream's calls.
func (w *twin) step(kind int) {
	w.Helper()
	last := data(0, text(3), true)
	if len(w.told) > 0 {
		last = w.told[len(w.told)-1]
	}
	switch kind {
	case 0:
		w.write(3)
	case 1:
		w.finish()
	case 2:
		w.reset(5, w.s.Size())
	case 3:
		w.reset(6, w.s.Size()/2)
	case 4:
		w.next(7, 9)
	case 5:
		w.next(99, 1)
	case 6:
		w.turn()
	case 7:
		w.hears(last, true)
	case 8:
		w.hears(last, false)
	case 9:
		w.hears(w.first(), true)
	case 10:
		w.hears(w.first(), false)
	}
}

// first is what was told first; of none, a frame that was not.
func (w *twin) first() api.Frame {
	if len(w.told) > 0 {
		return w.told[0]
	}
	return turned(5, 0, 0)
}

// TestRows: 13.1 to 13.3, every row of five calls of a small stream, and then the rest of it.
func TestRows(t *testing.T) {
	const calls = 11
	rows := calls * calls * calls * calls * calls
	for row := range rows {
		w := newTwin(t, one)
		w.write(2)
		for rest := row; rest > 0; rest /= calls {
			w.step(rest % calls)
		}
		w.rest()
		if (w.p.finished || w.p.reset) != w.s.Done() {
			t.Fatalf("13.3: row %d: all came, and Done %v", row, w.s.Done())
		}
	}
}

// play does one call of any kind, with arguments about the edges.
func (w *twin) play(d *dice) {
	w.Helper()
	size, told := w.s.Size(), len(w.told)
	switch kind := d.below(40); {
	case kind < 4:
		w.write(d.from(0, 1, 2, d.below(30), d.below(300), 4000-size, 4001-size))
	case kind == 4:
		if d.below(4) == 0 {
			w.finish()
		}
	case kind == 5:
		if d.below(4) == 0 {
			w.reset(d.from(0, 3, api.Most, -1), d.from(d.below(size+1), w.p.sure, w.p.sure-1, w.s.Used, size, size+1))
		}
	case kind < 20:
		w.next(d.from(5, 6, 7, d.below(20), d.below(140), 68, 69, 70, 71, 127, 128, 999), d.from(0, 1, d.below(30), d.below(150), 999, w.s.Left()))
	case kind < 23:
		w.turn()
	case kind < 26:
		w.raise(w.s.Limit + d.from(-1, 0, 1, d.below(100), d.below(300)))
	case kind < 29:
		f := data(d.below(size+2)-1, make([]byte, d.below(50)), d.below(3) == 0)
		if d.below(5) == 0 {
			f = turned(3, w.s.Used, d.from(w.p.sure, w.p.sure+1, 0))
		}
		w.hears(f, d.below(2) == 0)
	case told > 0:
		w.hears(w.told[d.from(told-1, told-1-d.below(min(told, 5)), d.below(told))], d.below(2) == 0)
	}
}

// TestPlays: 13.1 to 13.3, long plays of every call in any order, in rooms of any size, and then until Done.
func TestPlays(t *testing.T) {
	d := dice(13)
	ends := [3]int{}
	for range 1500 {
		w := newTwin(t, one)
		for range 20 + d.below(200) {
			w.play(&d)
		}
		if d.below(3) > 0 {
			w.finish()
		}
		w.rest()
		if (w.p.finished || w.p.reset) != w.s.Done() {
			t.Fatalf("13.3: all came, and Done %v", w.s.Done())
		}
		switch {
		case w.p.reset:
			ends[2]++
		case w.p.finished:
			ends[1]++
		default:
			ends[0]++
		}
	}
	for k, n := range ends {
		if n < 100 {
			t.Fatalf("the plays end %d times in the way %d", n, k)
		}
	}
}

// reader puts together by their Off what frames tell; place by place, as they come in any order.
type reader struct {
	got       map[int]byte
	fin       int
	turn      api.Frame
	finished  bool
	wasTurned bool
}

func (r *reader) hears(t *testing.T, f api.Frame) {
	t.Helper()
	if f.Kind == api.Reset {
		if r.wasTurned && (r.turn.A != f.A || r.turn.Off != f.Off) {
			t.Fatalf("13.1: %+v, and then %+v", r.turn, f)
		}
		if !r.wasTurned || f.B < r.turn.B {
			r.turn = f
		}
		r.wasTurned = true
		return
	}
	for k, c := range f.Data {
		if old, twice := r.got[f.Off+k]; twice && old != c {
			t.Fatalf("W5: place %d: %d, and then %d", f.Off+k, old, c)
		}
		r.got[f.Off+k] = c
	}
	if f.Fin {
		if end := f.Off + len(f.Data); r.finished && r.fin != end {
			t.Fatalf("W5: the end is %d, and then %d", r.fin, end)
		}
		r.fin, r.finished = f.Off+len(f.Data), true
	}
}

// first is what came from place 0 on without a gap.
func (r *reader) first() []byte {
	var b []byte
	for {
		c, there := r.got[len(b)]
		if !there {
			return b
		}
		b = append(b, c)
	}
}

// TestNet: W5, 13.1 to 13.3, over a net that loses and swaps, until Done: what was told, put together by its Off, is what was written.
func TestNet(t *testing.T) {
	d := dice(31)
	for play := range 400 {
		all := text(d.below(2000))
		s, r := send.New(one), &reader{got: map[int]byte{}}
		wrote, sum := 0, 0
		var under []api.Frame
		breaks := play%3 == 0
		for round := 0; !s.Done(); round++ {
			if round > 100000 {
				t.Fatalf("W8: %d of %d bytes, %+v: not Done", len(r.first()), len(all), s.Credit)
			}
			if n := d.below(200); wrote < len(all) && s.Write(all[wrote:min(wrote+n, len(all))]) == api.OK {
				wrote = s.Size()
				if wrote == len(all) && play%3 != 2 {
					wantErr(t, "Finish", s.Finish(), api.OK)
				}
			} else if wrote == len(all) && play%3 == 2 {
				s.Finish()
			}
			if breaks && round > 5 && d.below(6) == 0 {
				s.Reset(play, d.below(s.Size()+1))
			}
			s.Raise(s.Limit + d.below(60))
			for range d.below(4) {
				room, most := d.below(140), d.below(200)
				if f, fresh, ok := s.Next(room, most); ok {
					under, sum = append(under, f), sum+fresh
					if frame.Size(f) > room || fresh > most || f.Off+len(f.Data) > s.Limit || s.Used != sum {
						t.Fatalf("W6: room %d, most %d: %+v, %d, %+v", room, most, f, fresh, s.Credit)
					}
				}
			}
			if f, ok := s.Turn(); ok {
				under = append(under, f)
			}
			for range d.below(4) {
				if len(under) > 0 {
					k := d.below(len(under))
					f := under[k]
					under = slices.Delete(under, k, k+1)
					if d.below(3) == 0 {
						s.Lost(f)
					} else {
						r.hears(t, f)
						s.Acked(f)
					}
				}
			}
		}
		b := r.first()
		if !bytes.HasPrefix(all, b) {
			t.Fatalf("W5: play %d: %d bytes that were not written", play, len(b))
		}
		whole := r.finished && r.fin == len(all) && len(b) == len(all)
		broken := r.wasTurned && r.turn.A == play && len(b) >= r.turn.B
		if !whole && !broken || broken && !breaks {
			t.Fatalf("W5: play %d: %d of %d bytes came, Fin %v at %d, %+v", play, len(b), len(all), r.finished, r.fin, r.turn)
		}
	}
}

// TestMany: R6, a full stream whose every second byte is lost, and lost again, ends in time.
func TestMany(t *testing.T) {
	s := filled(t, 4000, 4000)
	all := text(4000)
	for range 3 {
		for k := 3999; k > 0; k -= 2 {
			s.Lost(data(k, all[k:k+1], false))
		}
		for k := 1; k < 4000; k += 2 {
			wantNext(t, s, 99, 99, data(k, all[k:k+1], false), 0)
		}
		wantNone(t, s, 99, 99)
	}
	for k := 0; k < 4000; k += 2 {
		s.Acked(data(k, all[k:k+1], false))
	}
	s.Lost(data(0, all, false))
	for k := 1; k < 4000; k += 2 {
		wantNext(t, s, 99, 99, data(k, all[k:k+1], false), 0)
	}
	wantNone(t, s, 99, 99)
}

// TestSame: R4, the same calls are answered the same, and asking changes nothing.
func TestSame(t *testing.T) {
	var told [2][]string
	for k := range told {
		d := dice(77)
		w := newTwin(t, one)
		for range 2000 {
			w.play(&d)
			if k == 1 {
				w.s.Done()
				w.s.Size()
				w.s.Left()
			}
		}
		for _, f := range w.told {
			b, e := frame.Lay(f)
			if e != api.OK {
				t.Fatalf("13.2: %+v is not right", f)
			}
			told[k] = append(told[k], string(b))
		}
	}
	if strings.Join(told[0], "|") != strings.Join(told[1], "|") || len(told[0]) == 0 {
		t.Fatalf("R4: %d frames, and %d", len(told[0]), len(told[1]))
	}
}
