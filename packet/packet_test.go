package packet_test

import (
	"bytes"
	"encoding/hex"
	"math"
	"reflect"
	"slices"
	"testing"

	"argosy/api"
	"argosy/frame"
	"argosy/packet"
	"argosy/pnum"
	"argosy/seal"
)

const all = math.MaxUint64

var keys = []uint64{0, 1, 7, 1 << 60, 0x0123456789abcdef, 1 << 63, all - 1, all}

// laid: right frames of every Kind, and their bytes, reckoned by hand.
var laid = []struct {
	f    api.Frame
	want string
}{
	{api.Frame{Kind: api.Ping}, "\x01"},
	{api.Frame{Kind: api.Ack, Spans: [][2]int{{9, 20}, {7, 7}, {0, 5}}}, "\x02\x03\x14\x0b\x02\x00\x02\x05"},
	{api.Frame{Kind: api.Stream}, "\x03\x00\x00\x00\x00"},
	{api.Frame{Kind: api.Stream, ID: 4, Off: 64, Fin: true, Data: []byte("ab")}, "\x03\x04\x40\x40\x01\x02ab"},
	{api.Frame{Kind: api.Stream, ID: 3, Data: filler(120)}, "\x03\x03\x00\x00\x40\x78" + string(filler(120))},
	{api.Frame{Kind: api.Reset, ID: 1, A: 2, Off: 4, B: 3}, "\x04\x01\x02\x04\x03"},
	{api.Frame{Kind: api.Stop, ID: 1, A: 2}, "\x05\x01\x02"},
	{api.Frame{Kind: api.DataLimit, A: 1000}, "\x06\x43\xe8"},
	{api.Frame{Kind: api.StreamLimit, ID: 3, A: 400}, "\x07\x03\x41\x90"},
	{api.Frame{Kind: api.StreamCount, A: 6, Fin: true}, "\x08\x06\x01"},
	{api.Frame{Kind: api.Datagram, Data: []byte("\x00\x01\xff")}, "\x09\x03\x00\x01\xff"},
	{api.Frame{Kind: api.Got, ID: 5}, "\x0a\x05"},
	{api.Frame{Kind: api.Got, ID: api.Most}, "\x0a\xff\xff\xff\xff\xff\xff\xff\xff"},
	{api.Frame{Kind: api.Away, ID: 70}, "\x0b\x40\x46"},
	{api.Frame{Kind: api.Close, A: 8}, "\x0c\x08"},
}

var (
	ping = api.Frame{Kind: api.Ping}
	got5 = api.Frame{Kind: api.Got, ID: 5}
)

// filler is n bytes, hardly two alike side by side, the same each time.
func filler(n int) []byte {
	b := make([]byte, n)
	for k := range b {
		b[k] = byte(k*167 + k>>8 + 13)
	}
	return b
}

// small is one frame of every Kind, that go into one packet together, and all their bytes.
func small() (l []api.Frame, text string) {
	seen := map[int]bool{}
	for _, c := range laid {
		if !seen[c.f.Kind] {
			seen[c.f.Kind] = true
			l = append(l, c.f)
			text += c.want
		}
	}
	return l, text
}

// filling is frames that are laid in just n bytes: streams, and pings where no stream goes in any more.
func filling(n int) []api.Frame {
	var l []api.Frame
	for n > 0 {
		f := ping
		if n >= 5 && n < 69 {
			f = api.Frame{Kind: api.Stream, Data: filler(n - 5)}
		} else if n >= 70 {
			f = api.Frame{Kind: api.Stream, Data: filler(min(n-6, api.MaxData))}
		}
		l = append(l, f)
		n -= frame.Size(f)
	}
	return l
}

// plainBytes is pnum.Bytes as its chapter words it.
func plainBytes(num, acked int) int {
	for k, most := range []int{1 << 7, 1 << 15, 1 << 23} {
		if num-acked <= most {
			return k + 1
		}
	}
	return 4
}

// plainHead is a packet's head, with its number in k bytes, as the chapter words it.
func plainHead(num, k int) []byte {
	four := []byte{byte(num >> 24), byte(num >> 16), byte(num >> 8), byte(num)}
	return append([]byte{byte(63 + k)}, four[4-k:]...)
}

// plainLay is a packet with its number in k bytes, of whatever body.
func plainLay(key uint64, num, k int, body string) []byte {
	head := plainHead(num, k)
	return append(head, seal.Close(key, num, head, []byte(body))...)
}

// plainBack is pnum.Back as its chapter words it: the one in next's turn and those in the turns beside it are asked.
func plainBack(cut, k, next int) int {
	turn := 1 << (8 * k)
	next = max(0, min(next, api.Most))
	best := -1
	for _, n := range []int{next/turn*turn + cut - turn, next/turn*turn + cut, next/turn*turn + cut + turn} {
		if n < 0 || n > api.Most {
			continue
		}
		if best < 0 || far(n, next) <= far(best, next) {
			best = n
		}
	}
	return best
}

func far(a, b int) int {
	return max(a-b, b-a)
}

// plainRead is Read as the chapter words it.
func plainRead(key uint64, next int, b []byte) (int, []api.Frame, api.Errno) {
	if len(b) >= 1 && !slices.Contains([]byte{64, 65, 66, 67}, b[0]) {
		return 0, nil, api.ErrForm
	}
	if len(b) < 1 || len(b) < 1+int(b[0]-63)+8 {
		return 0, nil, api.ErrShort
	}
	k, cut := int(b[0]-63), 0
	for _, c := range b[1 : 1+k] {
		cut = cut*256 + int(c)
	}
	num := plainBack(cut, k, next)
	body, ok := seal.Open(key, num, slices.Clone(b[:1+k]), slices.Clone(b[1+k:]))
	if !ok {
		return 0, nil, api.ErrSeal
	}
	l, e := frame.Read(body)
	if e != api.OK || len(l) == 0 {
		return num, nil, api.ErrNone
	}
	return num, l, api.OK
}

// dice gives numbers, the same each time.
type dice uint64

func (d *dice) upTo(n int) int {
	*d = *d*6364136223846793005 + 1442695040888963407
	return int(uint64(*d) >> 33 % uint64(n))
}

// number is one of any length, 0 to api.Most, now and then at an edge.
func (d *dice) number() int {
	switch d.upTo(8) {
	case 0:
		return 0
	case 1:
		return api.Most
	}
	return (d.upTo(1<<31)<<31 | d.upTo(1<<31)) >> d.upTo(62)
}

// frames is a list of those of laid, of up to n, and all their bytes.
func (d *dice) frames(n int) (l []api.Frame, text string) {
	for range d.upTo(n + 1) {
		c := laid[d.upTo(len(laid))]
		l = append(l, c.f)
		text += c.want
	}
	return l, text
}

// wantLaid holds a packet against what it is to be.
func wantLaid(t *testing.T, key uint64, num, acked int, body string, f ...api.Frame) []byte {
	t.Helper()
	want := plainLay(key, num, plainBytes(num, acked), body)
	b, e := packet.Lay(key, num, acked, f...)
	if e != api.OK || !bytes.Equal(b, want) {
		t.Fatalf("6.1: Lay(%#x, %d, %d, %+v...): % x, %d, not % x", key, num, acked, f, b, e, want)
	}
	return b
}

// wantRead holds what is read against what it is to be.
func wantRead(t *testing.T, key uint64, next int, b []byte, num int, f ...api.Frame) {
	t.Helper()
	n, l, e := packet.Read(key, next, b)
	if n != num || e != api.OK || !frame.Same(l, f) {
		t.Fatalf("6.2: Read(%#x, %d, % x): %d, %+v, %d, not %d, %+v", key, next, b, n, l, e, num, f)
	}
}

// wantNotLaid holds an error of Lay against what it is to be, with nothing beside it.
func wantNotLaid(t *testing.T, num, acked int, want api.Errno, f ...api.Frame) {
	t.Helper()
	if b, e := packet.Lay(3, num, acked, f...); b != nil || e != want {
		t.Errorf("6.1: Lay(3, %d, %d, %d frames): % x, %d, not %d", num, acked, len(f), b, e, want)
	}
}

// wantRefused holds an error of Read against what it is to be, with nothing beside it but the number that is told.
func wantRefused(t *testing.T, key uint64, next int, b []byte, num int, want api.Errno) {
	t.Helper()
	if n, l, e := packet.Read(key, next, b); n != num || l != nil || e != want {
		t.Fatalf("6.1: Read(%#x, %d, % x): %d, %+v, %d, not %d, %d", key, next, b, n, l, e, num, want)
	}
}

// TestExample: 6.1, the chapter's example.
func TestExample(t *testing.T) {
	if n := packet.Room(0, -1); n != 230 {
		t.Errorf("6.1: Room(0, -1): %d", n)
	}
}

// TestRoom: 6.1, numbers near and far, at each distance at which one needs one byte more.
func TestRoom(t *testing.T) {
	for _, c := range []struct{ far, want int }{
		{1, 230}, {2, 230}, {127, 230}, {128, 230}, {129, 229}, {1000, 229}, {1<<15 - 1, 229}, {1 << 15, 229}, {1<<15 + 1, 228},
		{1 << 20, 228}, {1 << 23, 228}, {1<<23 + 1, 227}, {1 << 31, 227}, {1<<31 + 1, 227}, {1 << 40, 227}, {api.Most, 227},
	} {
		for _, acked := range []int{-1, 0, 1, 77, 255, 1 << 30, 1 << 40, api.Most - 1, api.Most - c.far} {
			if num := acked + c.far; acked >= -1 && num <= api.Most {
				if n := packet.Room(num, acked); n != c.want {
					t.Errorf("6.1: Room(%d, %d): %d, not %d", num, acked, n, c.want)
				}
			}
		}
	}
}

// TestRoomOfAny: 6.1 and R1, whatever the numbers are, what pnum.Bytes says of them.
func TestRoomOfAny(t *testing.T) {
	some := []int{math.MinInt, math.MinInt + 1, -1 << 40, -129, -2, -1, 0, 1, 127, 128, 300, 1 << 40, api.Most, api.Most + 1, math.MaxInt}
	for _, num := range some {
		for _, acked := range some {
			if n, want := packet.Room(num, acked), 240-1-pnum.Bytes(num, acked)-8; n != want {
				t.Errorf("6.1: Room(%d, %d): %d, not %d", num, acked, n, want)
			}
		}
	}
}

// TestFull: 6.1, frames that fill a packet of just MaxPacket, and one byte more, in however many frames.
func TestFull(t *testing.T) {
	for _, c := range []struct{ num, acked, room int }{
		{0, -1, 230}, {127, -1, 230}, {128, -1, 229}, {1<<15 - 1, -1, 229}, {1 << 15, -1, 228}, {1<<23 - 1, -1, 228}, {1 << 23, -1, 227},
		{api.Most, -1, 227}, {api.Most, api.Most - 1, 230}, {api.Most, api.Most - 129, 229}, {api.Most, api.Most - 1<<20, 228},
	} {
		for _, fill := range []func(n int) []api.Frame{filling, func(n int) []api.Frame { return slices.Repeat([]api.Frame{ping}, n) }} {
			for _, less := range []int{0, 1, 2, 100} {
				l := fill(c.room - less)
				text, _ := frame.Lay(l...)
				b := wantLaid(t, 9, c.num, c.acked, string(text), l...)
				if len(b) != api.MaxPacket-less {
					t.Errorf("6.1: Lay(9, %d, %d) of %d bytes: %d", c.num, c.acked, len(text), len(b))
				}
				wantRead(t, 9, c.num, b, c.num, l...)
			}
			for _, more := range []int{1, 2, 3, 4, 8, 9, 13, 300, 5000} {
				wantNotLaid(t, c.num, c.acked, api.ErrFull, fill(c.room+more)...)
			}
		}
	}
}

// TestFullByLimit: 6.1, MaxPacket is api's, and a packet's own, its head and seal included.
func TestFullByLimit(t *testing.T) {
	for n := range 300 {
		b, e := packet.Lay(1, 40000, -1, slices.Repeat([]api.Frame{ping}, n)...)
		if n <= 228 && (e != api.OK || len(b) != n+12) || n > 228 && (e != api.ErrFull || b != nil) {
			t.Errorf("6.1: Lay of %d pings: %d bytes, %d", n, len(b), e)
		}
	}
}

// TestLayByHand: 6.1, packets reckoned by hand: numbers cut to 1, 2, 3 and 4 bytes, at each distance at which one byte more is needed.
func TestLayByHand(t *testing.T) {
	const n = 0x12345678
	for _, c := range []struct {
		key        uint64
		num, acked int
		f          []api.Frame
		want       string
	}{
		{0, 0, -1, nil, "40004f133c92868d2578"},
		{0, 0, -1, []api.Frame{ping}, "4000012e239cdeba2612ba"},
		{5, 300, 299, []api.Frame{ping}, "402c9103d49e41e1cb7875"},
		{5, 300, 100, []api.Frame{ping, {Kind: api.Got, ID: 9}}, "41012c91d229aeaf825fcba3d665"},
		{9, n, n - 1, []api.Frame{ping}, "4078b9bf0f79f9335d8b8b"},
		{9, n, n - 128, []api.Frame{ping}, "4078b9bf0f79f9335d8b8b"},
		{9, n, n - 129, []api.Frame{ping}, "415678b9d2bb771ed2ba5faf"},
		{9, n, n - 1<<15, []api.Frame{ping}, "415678b9d2bb771ed2ba5faf"},
		{9, n, n - 1<<15 - 1, []api.Frame{ping}, "42345678b96e9efa78f281277c"},
		{9, n, n - 1<<23, []api.Frame{ping}, "42345678b96e9efa78f281277c"},
		{9, n, n - 1<<23 - 1, []api.Frame{ping}, "4312345678b92aeda18cd3f5ffb5"},
		{9, n, -1, []api.Frame{got5}, "4312345678b205fc3040655ca3347a"},
		{all, api.Most, api.Most - 1, []api.Frame{got5}, "40ff38eeb49cb6c8464de75e"},
		{all, api.Most, -1, []api.Frame{got5}, "43ffffffff38ee614aef9c934d2fcc"},
		{1 << 60, api.Most - 5, 1, []api.Frame{{Kind: api.Stream, ID: 4, Off: 64, Fin: true, Data: []byte("ab")}}, "43fffffffaa2ed521a82c89559621d0d24eb68cdef"},
		{1 << 63, 127, -1, nil, "407fc32c9fc74159b08e"},
		{1 << 63, 128, -1, nil, "410080cb24863904a99603"},
	} {
		b, e := packet.Lay(c.key, c.num, c.acked, c.f...)
		if hex.EncodeToString(b) != c.want || e != api.OK {
			t.Errorf("6.1: Lay(%#x, %d, %d, %+v...): %x, %d, not %s", c.key, c.num, c.acked, c.f, b, e, c.want)
		}
		text, _ := hex.DecodeString(c.want)
		if len(c.f) == 0 {
			wantRefused(t, c.key, c.num, text, c.num, api.ErrNone)
		} else {
			wantRead(t, c.key, c.num, text, c.num, c.f...)
		}
	}
}

// TestNoFrame: 6.1, a packet of no frame is just head and seal.Size; read, its number is told, and that there is none.
func TestNoFrame(t *testing.T) {
	none := []api.Frame{}
	for _, c := range []struct{ num, acked, size int }{{0, -1, 10}, {500, 200, 11}, {1 << 20, -1, 12}, {1 << 40, -1, 13}, {api.Most, api.Most - 1, 10}} {
		for k, lay := range []func() ([]byte, api.Errno){
			func() ([]byte, api.Errno) { return packet.Lay(7, c.num, c.acked) },
			func() ([]byte, api.Errno) { return packet.Lay(7, c.num, c.acked, nil...) },
			func() ([]byte, api.Errno) { return packet.Lay(7, c.num, c.acked, none...) },
		} {
			b, e := lay()
			if want := plainLay(7, c.num, c.size-9, ""); e != api.OK || len(b) != c.size || !bytes.Equal(b, want) {
				t.Errorf("6.1: Lay of no frame, %d: % x, %d, not % x", k, b, e, want)
			}
			wantRefused(t, 7, c.num, b, c.num, api.ErrNone)
		}
	}
}

// TestEachKind: 6.1 and 6.2, each Kind alone, two of them, and all together, as arguments and spread.
func TestEachKind(t *testing.T) {
	l, text := small()
	if len(l) != api.Close {
		t.Fatalf("%d Kinds", len(l))
	}
	for _, key := range keys {
		for _, num := range []int{0, 1, 77, 300, 1 << 20, 1 << 40, api.Most} {
			for _, c := range laid {
				wantRead(t, key, num, wantLaid(t, key, num, -1, c.want, c.f), num, c.f)
				wantRead(t, key, num, wantLaid(t, key, num, num-1, c.want+"\x01\x0a\x05", c.f, ping, got5), num, c.f, ping, got5)
				wantRead(t, key, num, wantLaid(t, key, num, num-1, "\x0a\x05"+c.want, got5, c.f), num, got5, c.f)
			}
			wantRead(t, key, num, wantLaid(t, key, num, -1, text, l...), num, l...)
			wantRead(t, key, num, wantLaid(t, key, num, num-1, text+text, slices.Concat(l, l)...), num, slices.Concat(l, l)...)
		}
	}
}

// TestNote: 6.1, a Note is not laid: whatever it is, the packet is the same, and what is read has none.
func TestNote(t *testing.T) {
	for _, note := range []int{1, -1, api.Most + 1, math.MinInt, math.MaxInt} {
		b := wantLaid(t, 3, 8, 7, "\x01\x0a\x05", api.Frame{Kind: api.Ping, Note: note}, api.Frame{Kind: api.Got, ID: 5, Note: -note})
		if _, l, e := packet.Read(3, 8, b); e != api.OK || !reflect.DeepEqual(l, []api.Frame{ping, got5}) {
			t.Errorf("6.2: Read: %+v, %d", l, e)
		}
	}
}

// TestNearNexts: 6.2, numbers cut to one byte: read from every next behind acked up to the number, at every distance.
func TestNearNexts(t *testing.T) {
	for _, num := range []int{0, 1, 100, 127, 128, 129, 255, 256, 257, 300, 511, 512, 1<<32 + 5, 1 << 40, api.Most - 200, api.Most - 1, api.Most} {
		for acked := num - 1; acked >= max(-1, num-128); acked-- {
			b := wantLaid(t, 6, num, acked, "\x0a\x05", got5)
			for next := acked + 1; next <= num; next++ {
				wantRead(t, 6, next, b, num, got5)
			}
		}
	}
}

// TestNexts: 6.2, numbers cut to 2, 3 and 4 bytes: read from nexts behind acked up to the number, the edges among them.
func TestNexts(t *testing.T) {
	for _, c := range []struct{ from, to, step int }{{129, 1 << 15, 1}, {1<<15 + 1, 1 << 23, 1009}, {1<<23 + 1, 1 << 31, 300007}} {
		for _, num := range []int{c.to - 1, c.to, c.to + 1, 2*c.to - 1, 2 * c.to, 2*c.to + 1, 1 << 45, api.Most - 1, api.Most} {
			for _, distance := range []int{c.from, c.from + 1, c.to / 2, c.to - 1, c.to} {
				acked := num - distance
				if acked < -1 {
					continue
				}
				b := wantLaid(t, 6, num, acked, "\x01\x01", ping, ping)
				for next := acked + 1; next <= num; next += c.step {
					wantRead(t, 6, next, b, num, ping, ping)
				}
				for next := num - 3; next <= num; next++ {
					wantRead(t, 6, next, b, num, ping, ping)
				}
			}
		}
	}
}

// TestVeryFar: 6.1, numbers further from acked than four bytes tell are laid in four, and read from every next that is not too far.
func TestVeryFar(t *testing.T) {
	for _, c := range []struct{ num, acked int }{{1<<31 + 1, -1}, {1 << 33, 5}, {1 << 61, 1 << 50}, {api.Most, -1}, {api.Most, 0}} {
		b := wantLaid(t, 6, c.num, c.acked, "\x01", ping)
		if len(b) != 14 {
			t.Errorf("6.1: Lay(6, %d, %d): %d bytes", c.num, c.acked, len(b))
		}
		for _, back := range []int{0, 1, 1 << 20, 1<<31 - 1, 1 << 31} {
			wantRead(t, 6, c.num-back, b, c.num, ping)
		}
	}
}

// TestTooFar: 6.1, a next that is just not too far behind or ahead, and one that is: another number comes back, under which nothing opens.
func TestTooFar(t *testing.T) {
	for k := 1; k <= 4; k++ {
		half := 1 << (8*k - 1)
		for _, num := range []int{2*half + 5, 4*half - 1, 4 * half, 1 << 50, api.Most - 3*half} {
			b := plainLay(6, num, k, "\x01")
			for _, near := range []int{-half, -half + 1, -1, 0, 1, half - 2, half - 1} {
				wantRead(t, 6, num+near, b, num, ping)
			}
			for _, away := range []int{-2*half - 5, -half - 2, -half - 1, half, half + 1, 2 * half, 3 * half} {
				wantRefused(t, 6, num+away, b, 0, api.ErrSeal)
			}
		}
	}
}

// TestOtherTurn: 6.1, closed under the number that comes back of another next: that one is told.
func TestOtherTurn(t *testing.T) {
	for k := 1; k <= 4; k++ {
		turn := 1 << (8 * k)
		for _, cut := range []int{0, 7, turn/2 - 1, turn / 2, turn - 1} {
			for _, num := range []int{cut, cut + turn, cut + 2*turn, cut + 1<<50} {
				for _, next := range []int{num - turn/2, num - 1, num, num + 1, num + turn/2 - 1} {
					wantRead(t, 2, next, plainLay(2, num, k, "\x0a\x05"), num, got5)
					wantRefused(t, 2, next, plainLay(2, num+turn, k, "\x0a\x05"), 0, api.ErrSeal)
				}
			}
		}
	}
}

// TestNextOfAny: 6.1, a next that may be no number is brought to the nearest that may; at the ends there is no turn beyond.
func TestNextOfAny(t *testing.T) {
	for k := 1; k <= 4; k++ {
		turn := 1 << (8 * k)
		for _, next := range []int{math.MinInt, math.MinInt + 1, -1 << 40, -1, 0} {
			for _, num := range []int{0, 1, turn / 2, turn/2 + 1, turn - 1} {
				wantRead(t, 4, next, plainLay(4, num, k, "\x01"), num, ping)
			}
			wantRefused(t, 4, next, plainLay(4, turn, k, "\x01"), 0, api.ErrSeal)
		}
		for _, next := range []int{api.Most, api.Most + 1, math.MaxInt - 1, math.MaxInt} {
			for _, num := range []int{api.Most, api.Most - 1, api.Most - turn/2, api.Most - turn + 1} {
				wantRead(t, 4, next, plainLay(4, num, k, "\x01"), num, ping)
			}
			wantRefused(t, 4, next, plainLay(4, api.Most-turn, k, "\x01"), 0, api.ErrSeal)
		}
	}
}

// TestLongHead: 6.1, a number in more bytes than it needs is read all the same.
func TestLongHead(t *testing.T) {
	for k := 1; k <= 4; k++ {
		for _, num := range []int{0, 7, 255} {
			wantRead(t, 3, 0, plainLay(3, num, k, "\x01\x0a\x05"), num, ping, got5)
		}
	}
}

// TestReadLong: 6.1, Read refuses none for being long.
func TestReadLong(t *testing.T) {
	for _, n := range []int{230, 231, 232, 1000, 70000} {
		l := slices.Repeat([]api.Frame{ping}, n)
		wantRead(t, 3, 7, plainLay(3, 7, 1, string(bytes.Repeat([]byte{1}, n))), 7, l...)
	}
}

// TestLayNumbers: 6.1, numbers and ackeds that may not be, whatever the frames are.
func TestLayNumbers(t *testing.T) {
	some, _ := small()
	for _, c := range []struct{ num, acked int }{
		{-1, -1}, {-1, -2}, {-2, -1}, {-1, 5}, {math.MinInt, -1}, {math.MinInt, math.MinInt}, {math.MinInt, math.MaxInt}, {math.MinInt + 1, math.MinInt}, {-5, -9},
		{api.Most + 1, -1}, {api.Most + 1, 5}, {api.Most + 1, api.Most}, {api.Most + 2, api.Most + 1}, {math.MaxInt, -1}, {math.MaxInt, math.MaxInt - 1}, {math.MaxInt, math.MinInt},
		{0, -2}, {5, -2}, {5, -3}, {0, -129}, {5, math.MinInt}, {api.Most, -2}, {api.Most, math.MinInt}, {0, math.MinInt},
		{0, 0}, {5, 5}, {300, 300}, {api.Most, api.Most}, {api.Most + 1, api.Most + 1}, {math.MaxInt, math.MaxInt},
		{0, 1}, {5, 6}, {5, 7}, {5, 261}, {0, api.Most}, {5, math.MaxInt}, {api.Most, api.Most + 1}, {api.Most, math.MaxInt},
	} {
		for _, l := range [][]api.Frame{nil, {}, {ping}, some, {{}}, filling(400)} {
			wantNotLaid(t, c.num, c.acked, api.ErrArg, l...)
		}
	}
	for _, c := range []struct{ num, acked int }{{0, -1}, {1, 0}, {1, -1}, {5, 4}, {api.Most, api.Most - 1}, {api.Most, 0}, {api.Most, -1}, {api.Most - 1, -1}} {
		wantLaid(t, 3, c.num, c.acked, "\x01", ping)
	}
}

// TestLayFrames: 6.1, frames that are not right, alone, ahead of others, behind and between them.
func TestLayFrames(t *testing.T) {
	for _, f := range []api.Frame{
		{}, {Kind: -1}, {Kind: 13}, {Kind: math.MinInt}, {Kind: api.Ping, ID: 1}, {Kind: api.Got, ID: -1}, {Kind: api.Got, ID: api.Most + 1}, {Kind: api.Ack}, {Kind: api.Datagram},
		{Kind: api.Stream, Data: filler(121)}, {Kind: api.Stream, Off: api.Most, Data: filler(1)}, {Kind: api.Reset, Off: 1, B: 2}, {Kind: api.Ack, Spans: [][2]int{{1, 2}, {5, 6}}},
	} {
		for _, l := range [][]api.Frame{{f}, {f, ping}, {got5, f}, {ping, f, got5}, {f, f}} {
			wantNotLaid(t, 0, -1, api.ErrArg, l...)
			wantNotLaid(t, 1<<40, 5, api.ErrArg, l...)
		}
	}
}

// TestLayFirst: 6.1, where several errors apply, ErrArg ahead of ErrFull, wherever the frame that is not right is.
func TestLayFirst(t *testing.T) {
	long := filling(5000)
	wantNotLaid(t, 5, 4, api.ErrFull, long...)
	for _, at := range []int{0, 1, len(long) / 2, len(long)} {
		wantNotLaid(t, 5, 4, api.ErrArg, slices.Insert(slices.Clone(long), at, api.Frame{})...)
	}
	wantNotLaid(t, 5, 4, api.ErrArg, append(filling(230), api.Frame{})...)
	wantNotLaid(t, 5, 5, api.ErrArg, long...)
	wantNotLaid(t, 5, -2, api.ErrArg, long...)
	wantNotLaid(t, -1, -1, api.ErrArg, long...)
	wantNotLaid(t, api.Most+1, 5, api.ErrArg, long...)
}

// TestVeryMany: R1, so many frames that it is far beyond a packet.
func TestVeryMany(t *testing.T) {
	l := slices.Repeat([]api.Frame{got5, {Kind: api.Stream, Data: filler(120)}}, 50000)
	wantNotLaid(t, 5, 4, api.ErrFull, l...)
	wantNotLaid(t, 5, 4, api.ErrArg, append(l, api.Frame{})...)
}

// TestFirstByte: 6.1, each first byte that is not 64 to 67, whatever is behind it, nothing too.
func TestFirstByte(t *testing.T) {
	whole := plainLay(3, 7, 1, "\x01")
	for first := range 256 {
		if first >= 64 && first <= 67 {
			continue
		}
		for _, behind := range [][]byte{nil, {0}, filler(7), filler(8), filler(9), make([]byte, 30), filler(300), whole[1:], plainLay(3, 7, 4, "\x01")[1:]} {
			wantRefused(t, 3, 7, append([]byte{byte(first)}, behind...), 0, api.ErrForm)
		}
		head := []byte{byte(first), 7}
		wantRefused(t, 3, 7, append(head, seal.Close(3, 7, head, []byte("\x01"))...), 0, api.ErrForm)
	}
}

// TestReadShort: 6.1, fewer bytes than head and seal.Size, none among them; so many alone are no packet either, but not too few.
func TestReadShort(t *testing.T) {
	wantRefused(t, 3, 0, nil, 0, api.ErrShort)
	wantRefused(t, 3, 0, []byte{}, 0, api.ErrShort)
	wantRefused(t, 3, 0, []byte("\x40\x07")[:0], 0, api.ErrShort)
	for k := 1; k <= 4; k++ {
		for n := 1; n < 1+k+8; n++ {
			b := append([]byte{byte(63 + k)}, filler(40)...)
			wantRefused(t, 3, 0, b[:n], 0, api.ErrShort)
			wantRefused(t, 3, math.MaxInt, append([]byte{byte(63 + k)}, make([]byte, n-1)...), 0, api.ErrShort)
		}
		wantRefused(t, 3, 0, append([]byte{byte(63 + k)}, make([]byte, k+8)...), 0, api.ErrSeal)
	}
}

// TestReadCut: 6.1, packets that end at every place, or begin at another one; what is in the spare room is not there.
func TestReadCut(t *testing.T) {
	l, text := small()
	for _, num := range []int{7, 300, 1 << 20, 1 << 40} {
		b := wantLaid(t, 3, num, -1, text, l...)
		head := 1 + plainBytes(num, -1)
		for n := range len(b) {
			want := api.ErrSeal
			if n < head+8 {
				want = api.ErrShort
			}
			wantRefused(t, 3, num, b[:n], 0, want)
		}
		for k := 1; k < len(b); k++ {
			_, _, want := plainRead(3, num, b[k:])
			wantRefused(t, 3, num, b[k:], 0, want)
		}
		wantRefused(t, 3, num, append(slices.Clone(b), 0), 0, api.ErrSeal)
		wantRefused(t, 3, num, append(slices.Clone(b), b...), 0, api.ErrSeal)
	}
}

// TestTurned: 6.2, each byte behind the head another one, every other one, whatever next is.
func TestTurned(t *testing.T) {
	l, text := small()
	for _, c := range []struct {
		num, acked int
		body       string
		f          []api.Frame
	}{{0, -1, "", nil}, {7, 6, "\x01", []api.Frame{ping}}, {300, -1, "\x0a\x05\x01", []api.Frame{got5, ping}}, {1 << 20, -1, text, l}, {api.Most, 5, text, l}} {
		for _, key := range keys[:5] {
			b := wantLaid(t, key, c.num, c.acked, c.body, c.f...)
			for k := 1 + plainBytes(c.num, c.acked); k < len(b); k++ {
				for by := 1; by < 256; by++ {
					b[k] ^= byte(by)
					wantRefused(t, key, c.num, b, 0, api.ErrSeal)
					wantRefused(t, key, max(0, c.num-9), b, 0, api.ErrSeal)
					b[k] ^= byte(by)
				}
			}
		}
	}
}

// TestTurnedHead: 6.1, the head is under the seal: a number's byte that is another one, or a head of another length, does not open.
func TestTurnedHead(t *testing.T) {
	for _, num := range []int{7, 300, 1 << 20, 1 << 40} {
		b := wantLaid(t, 3, num, -1, "\x01\x0a\x05", ping, got5)
		for k := 1; k <= plainBytes(num, -1); k++ {
			for by := 1; by < 256; by++ {
				b[k] ^= byte(by)
				for _, next := range []int{num, num - 1, num ^ by, 0} {
					wantRefused(t, 3, next, b, 0, api.ErrSeal)
				}
				b[k] ^= byte(by)
			}
		}
		for k := 1; k <= 4; k++ {
			for n := 1; n <= 4; n++ {
				// The same number, and the same body, sealed with a head of another length.
				if b := append(plainHead(num, k), seal.Close(3, num, plainHead(num, n), []byte("\x01"))...); k != n {
					wantRefused(t, 3, num, b, 0, api.ErrSeal)
				}
			}
		}
		wantRefused(t, 3, num, append(plainHead(num, 4), seal.Close(3, num, nil, []byte("\x01"))...), 0, api.ErrSeal)
		wantRefused(t, 3, num, append(plainHead(num, 4), seal.Close(3, num, plainHead(num, 4)[1:], []byte("\x01"))...), 0, api.ErrSeal)
	}
}

// TestKey: 6.1, another key: each bit of it turned, and those beside it.
func TestKey(t *testing.T) {
	for _, key := range keys {
		for _, num := range []int{0, 300, api.Most} {
			b := wantLaid(t, key, num, -1, "\x01", ping)
			for k := range 64 {
				for _, other := range []uint64{key ^ 1<<k, key + 1<<k, key ^ all<<k} {
					wantRefused(t, other, num, b, 0, api.ErrSeal)
				}
			}
			wantRead(t, key, num, b, num, ping)
		}
	}
}

// TestNoneInIt: 6.1, what opens and holds no frame, or bytes that frame.Read refuses: the number is told, and no frame, of those ahead neither.
func TestNoneInIt(t *testing.T) {
	for _, body := range []string{
		"", "\x00", "\x0d", "\x40", "\xff", "\x0a", "\x01\x0a", "\x01\x00", "\x0a\x05\x0d", "\x01\x01\x01\x01\x02", "\x02\x00", "\x02\x01\x05\x06", "\x02\x02\x05\x00\x01",
		"\x03\x00\x00\x02\x00", "\x03\x00\x00\x00\x02a", "\x09\x00", "\x09\x40\x79" + string(filler(121)), "\x04\x01\x02\x03\x04", "\x01\x0c\x40", string(filler(200)),
	} {
		for _, num := range []int{0, 7, 263, 1 << 20, 1 << 40, api.Most} {
			for k := 1; k <= 4; k++ {
				b := plainLay(3, num, k, body)
				wantRefused(t, 3, num, b, num, api.ErrNone)
				wantRefused(t, 3, max(0, num-100), b, num, api.ErrNone)
				wantRead(t, 3, num, plainLay(3, num, k, "\x01\x0a\x05"), num, ping, got5)
			}
		}
	}
}

// TestReadFirst: 6.1, where several errors apply, the first that the chapter names.
func TestReadFirst(t *testing.T) {
	for k := 1; k <= 4; k++ {
		for _, body := range []string{"", "\x00", "\x01\x0a"} {
			b := plainLay(3, 7, k, body)
			wantRefused(t, 4, 7, b, 0, api.ErrSeal)
			wantRefused(t, 3, 1<<40, b, 0, api.ErrSeal)
			wantRefused(t, 4, 7, b[:k+8], 0, api.ErrShort)
			b[0] += 4
			wantRefused(t, 3, 7, b, 0, api.ErrForm)
			wantRefused(t, 3, 7, b[:1], 0, api.ErrForm)
			wantRefused(t, 3, 7, b[:k+8], 0, api.ErrForm)
			b[0] = 63
			wantRefused(t, 4, 7, b, 0, api.ErrForm)
			wantRefused(t, 4, 7, b[:1], 0, api.ErrForm)
		}
	}
}

// spare is a frame of which Data and Spans have spare room, that is not zero.
func spare(f api.Frame) api.Frame {
	f.Data = append(slices.Clone(f.Data), "spare room"...)[:len(f.Data)]
	f.Spans = append(slices.Clone(f.Spans), [2]int{-8, -9}, [2]int{-6, -7})[:len(f.Spans)]
	return f
}

// wholes is all that a list of frames holds, its spare room included, as a copy.
func wholes(l []api.Frame) []api.Frame {
	var w []api.Frame
	for _, f := range l[:cap(l)] {
		f.Data = slices.Clone(f.Data[:cap(f.Data)])
		f.Spans = slices.Clone(f.Spans[:cap(f.Spans)])
		w = append(w, f)
	}
	return w
}

// roomy is one small frame of every Kind, all of them, and their list, with spare room.
func roomy() []api.Frame {
	l, _ := small()
	room := make([]api.Frame, 0, 30)
	for _, f := range l {
		room = append(room, spare(f))
	}
	return room
}

// TestArgumentsStand: R2, what is handed in is not changed, spare room and a list that is spread included.
func TestArgumentsStand(t *testing.T) {
	_, text := small()
	room := roomy()
	was := wholes(room)
	b := wantLaid(t, 3, 7, -1, text, room...)
	wantNotLaid(t, 7, 7, api.ErrArg, room...)
	wantNotLaid(t, 7, 6, api.ErrArg, append(slices.Clone(room), api.Frame{})...)
	wantNotLaid(t, 7, 6, api.ErrFull, slices.Repeat(room, 20)...)
	if !reflect.DeepEqual(wholes(room), was) {
		t.Error("R2: frames handed in and changed")
	}
	for _, given := range [][]byte{b, plainLay(3, 7, 1, ""), plainLay(3, 7, 2, "\x0d"), plainLay(4, 7, 4, "\x01"), {64, 1, 2}, {3, 4, 5}} {
		whole := append(slices.Clone(given), "spare room"...)
		kept := string(whole)
		packet.Read(3, 7, whole[:len(given)])
		packet.Read(3, 1<<40, whole[:len(given)])
		if string(whole) != kept {
			t.Errorf("R2: bytes handed in and changed: % x", given)
		}
	}
}

// TestLayIsNew: R2, a packet shares nothing with what was handed in, nor with another one, spare room too.
func TestLayIsNew(t *testing.T) {
	for _, l := range [][]api.Frame{nil, {spare(laid[4].f)}, roomy()} {
		was := wholes(l)
		one, _ := packet.Lay(3, 300, -1, l...)
		other, _ := packet.Lay(3, 300, -1, l...)
		kept := string(other[:cap(other)])
		one = one[:cap(one)]
		for k := range one {
			one[k] ^= 0xee
		}
		if string(other[:cap(other)]) != kept || !reflect.DeepEqual(wholes(l), was) {
			t.Errorf("R2: Lay of %d frames: shares memory", len(l))
		}
		for k := range l {
			scrub(&l[k])
		}
		if string(other[:cap(other)]) != kept {
			t.Errorf("R2: Lay of %d frames: keeps what was handed in", len(l))
		}
	}
}

// scrub writes into all that a frame holds, spare room too.
func scrub(f *api.Frame) {
	for k := range f.Data[:cap(f.Data)] {
		f.Data[:cap(f.Data)][k] ^= 0xee
	}
	for k := range f.Spans[:cap(f.Spans)] {
		f.Spans[:cap(f.Spans)][k] = [2]int{-77, -77}
	}
	f.Kind, f.ID, f.A = -77, -77, -77
}

// TestReadIsNew: R2, what is read shares nothing with the bytes, nor one part of it with another, spare room too.
func TestReadIsNew(t *testing.T) {
	l, text := small()
	for at := range l {
		b := append(plainLay(3, 300, 2, text), "spare room"...)
		kept := string(b)
		given := b[:len(b)-len("spare room")]
		_, one, e1 := packet.Read(3, 300, given)
		_, other, e2 := packet.Read(3, 300, given)
		if e1 != api.OK || e2 != api.OK || !frame.Same(one, l) || !frame.Same(other, l) {
			t.Fatalf("6.2: Read: %d, %d", e1, e2)
		}
		clear(one[len(one):cap(one)])
		scrub(&one[at])
		if string(b) != kept {
			t.Fatalf("R2: Read, frame %d: shares memory with the bytes", at)
		}
		clear(b)
		if !frame.Same(other, l) || !frame.Same(one[:at], l[:at]) || !frame.Same(one[at+1:], l[at+1:]) {
			t.Fatalf("R2: Read, frame %d: shares memory with others", at)
		}
	}
}

// TestSameEachTime: R4, what is answered hangs on nothing but what is handed in.
func TestSameEachTime(t *testing.T) {
	l, text := small()
	want := plainLay(3, 300, 2, text)
	for range 5 {
		wantNotLaid(t, 300, -1, api.ErrArg, api.Frame{})
		wantRefused(t, 3, 300, want[:20], 0, api.ErrSeal)
		wantRefused(t, 3, 1<<40, want, 0, api.ErrSeal)
		if b := wantLaid(t, 3, 300, -1, text, l...); !bytes.Equal(b, want) {
			t.Errorf("R4: Lay: % x", b)
		}
		wantRead(t, 3, 300, want, 300, l...)
	}
}

// TestThereAndBack: 6.1 and 6.2, packets of any numbers and frames, held against the chapter's words, and read from a next behind acked up to the number.
func TestThereAndBack(t *testing.T) {
	d := dice(6)
	full := 0
	for range 30000 {
		num := d.number()
		acked := num - 1 - min(num, d.number()>>d.upTo(62))
		key := uint64(d.number())<<uint(d.upTo(3)) ^ all<<uint(d.upTo(65))
		l, text := d.frames(7)
		if len(text) > packet.Room(num, acked) {
			full++
			wantNotLaid(t, num, acked, api.ErrFull, l...)
			continue
		}
		b := wantLaid(t, key, num, acked, text, l...)
		if num-acked > 1<<31 {
			acked = num - 1<<31
		}
		next := acked + 1 + d.upTo(num-acked)
		if len(l) == 0 {
			wantRefused(t, key, next, b, num, api.ErrNone)
		} else {
			wantRead(t, key, next, b, num, l...)
		}
	}
	if full < 300 || full > 20000 {
		t.Errorf("full: %d", full)
	}
}

// TestReadPlain: 6.1, packets of any body, turned, cut and lengthened, and read from any next: held against the chapter's words.
func TestReadPlain(t *testing.T) {
	d := dice(66)
	seen := map[api.Errno]int{}
	for range 100000 {
		num := d.number()
		k := 1 + d.upTo(4)
		_, text := d.frames(4)
		if d.upTo(3) == 0 {
			text += string([]byte{byte(d.upTo(14)), byte(d.upTo(3))})
		}
		b := plainLay(9, num, k, text)
		switch d.upTo(6) {
		case 0:
			b[0] = byte(60 + d.upTo(12))
		case 1:
			b[d.upTo(len(b))] ^= byte(1 + d.upTo(255))
		case 2:
			b = b[:d.upTo(len(b)+1)]
		case 3:
			b = append(b, byte(d.upTo(256)))
		}
		next := num + d.upTo(1<<(8*k)) - 1<<(8*k-1) + d.upTo(5) - 2
		n, l, e := packet.Read(9, next, b)
		wantN, wantL, wantE := plainRead(9, next, b)
		if n != wantN || e != wantE || !frame.Same(l, wantL) {
			t.Fatalf("6.1: Read(9, %d, % x): %d, %+v, %d, not %d, %+v, %d", next, b, n, l, e, wantN, wantL, wantE)
		}
		seen[e]++
	}
	for _, e := range []api.Errno{api.OK, api.ErrForm, api.ErrShort, api.ErrSeal, api.ErrNone} {
		if seen[e] < 1000 {
			t.Errorf("too few of a kind: %v", seen)
		}
	}
}
