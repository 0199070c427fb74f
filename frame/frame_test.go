package frame_test

import (
	"bytes"
	"math"
	"reflect"
	"slices"
	"strings"
	"testing"

	"argosy/api"
	"argosy/frame"
)

// top is api.Most, laid.
const top = "\xff\xff\xff\xff\xff\xff\xff\xff"

// eight is as many runs as an Ack may have, each just two above the next.
var eight = [][2]int{{14, 14}, {12, 12}, {10, 10}, {8, 8}, {6, 6}, {4, 4}, {2, 2}, {0, 0}}

// laid: right frames, and their bytes, reckoned by hand.
var laid = []struct {
	f    api.Frame
	want string
}{
	{api.Frame{Kind: api.Ping}, "\x01"},
	{api.Frame{Kind: api.Ack, Spans: [][2]int{{0, 0}}}, "\x02\x01\x00\x00"},
	{api.Frame{Kind: api.Ack, Spans: [][2]int{{5, 5}}}, "\x02\x01\x05\x00"},
	{api.Frame{Kind: api.Ack, Spans: [][2]int{{0, 5}}}, "\x02\x01\x05\x05"},
	{api.Frame{Kind: api.Ack, Spans: [][2]int{{0, api.Most}}}, "\x02\x01" + top + top},
	{api.Frame{Kind: api.Ack, Spans: [][2]int{{api.Most, api.Most}}}, "\x02\x01" + top + "\x00"},
	{api.Frame{Kind: api.Ack, Spans: [][2]int{{api.Most, api.Most}, {0, 0}}}, "\x02\x02" + top + "\x00" + top + "\x00"},
	{api.Frame{Kind: api.Ack, Spans: [][2]int{{9, 20}, {7, 7}, {0, 5}}}, "\x02\x03\x14\x0b\x02\x00\x02\x05"},
	{api.Frame{Kind: api.Ack, Spans: [][2]int{{100, 16483}, {34, 36}, {0, 0}}}, "\x02\x03\x80\x00\x40\x63\x7f\xff\x40\x40\x02\x22\x00"},
	{api.Frame{Kind: api.Ack, Spans: eight}, "\x02\x08\x0e\x00" + strings.Repeat("\x02\x00", 7)},
	{api.Frame{Kind: api.Stream}, "\x03\x00\x00\x00\x00"},
	{api.Frame{Kind: api.Stream, ID: 4, Off: 64, Fin: true, Data: []byte("ab")}, "\x03\x04\x40\x40\x01\x02ab"},
	{api.Frame{Kind: api.Stream, ID: 64, Off: 4, Data: []byte("\x00")}, "\x03\x40\x40\x04\x00\x01\x00"},
	{api.Frame{Kind: api.Stream, ID: 1, Off: 2, Fin: true}, "\x03\x01\x02\x01\x00"},
	{api.Frame{Kind: api.Stream, ID: api.Most, Off: api.Most, Fin: true}, "\x03" + top + top + "\x01\x00"},
	{api.Frame{Kind: api.Stream, Off: api.Most - 1, Data: []byte("a")}, "\x03\x00\xff\xff\xff\xff\xff\xff\xff\xfe\x00\x01a"},
	{api.Frame{Kind: api.Stream, Off: api.Most - 120, Data: filler(120)}, "\x03\x00\xff\xff\xff\xff\xff\xff\xff\x87\x00\x40\x78" + string(filler(120))},
	{api.Frame{Kind: api.Stream, ID: 3, Data: filler(63)}, "\x03\x03\x00\x00\x3f" + string(filler(63))},
	{api.Frame{Kind: api.Stream, ID: 3, Data: filler(64)}, "\x03\x03\x00\x00\x40\x40" + string(filler(64))},
	{api.Frame{Kind: api.Reset}, "\x04\x00\x00\x00\x00"},
	{api.Frame{Kind: api.Reset, ID: 1, A: 2, Off: 4, B: 3}, "\x04\x01\x02\x04\x03"},
	{api.Frame{Kind: api.Reset, ID: 70, A: 16384, Off: 3, B: 3}, "\x04\x40\x46\x80\x00\x40\x00\x03\x03"},
	{api.Frame{Kind: api.Reset, Off: 300}, "\x04\x00\x00\x41\x2c\x00"},
	{api.Frame{Kind: api.Reset, ID: api.Most, A: api.Most, Off: api.Most, B: api.Most}, "\x04" + top + top + top + top},
	{api.Frame{Kind: api.Stop}, "\x05\x00\x00"},
	{api.Frame{Kind: api.Stop, ID: 1, A: 2}, "\x05\x01\x02"},
	{api.Frame{Kind: api.Stop, ID: api.Most, A: api.Most}, "\x05" + top + top},
	{api.Frame{Kind: api.DataLimit}, "\x06\x00"},
	{api.Frame{Kind: api.DataLimit, A: 1000}, "\x06\x43\xe8"},
	{api.Frame{Kind: api.DataLimit, A: api.Most}, "\x06" + top},
	{api.Frame{Kind: api.StreamLimit}, "\x07\x00\x00"},
	{api.Frame{Kind: api.StreamLimit, ID: 3, A: 400}, "\x07\x03\x41\x90"},
	{api.Frame{Kind: api.StreamLimit, ID: api.Most, A: api.Most}, "\x07" + top + top},
	{api.Frame{Kind: api.StreamCount}, "\x08\x00\x00"},
	{api.Frame{Kind: api.StreamCount, A: 6}, "\x08\x06\x00"},
	{api.Frame{Kind: api.StreamCount, A: 6, Fin: true}, "\x08\x06\x01"},
	{api.Frame{Kind: api.StreamCount, A: api.Most, Fin: true}, "\x08" + top + "\x01"},
	{api.Frame{Kind: api.Datagram, Data: []byte("x")}, "\x09\x01x"},
	{api.Frame{Kind: api.Datagram, Data: []byte("\x00\x01\xff")}, "\x09\x03\x00\x01\xff"},
	{api.Frame{Kind: api.Datagram, Data: filler(120)}, "\x09\x40\x78" + string(filler(120))},
	{api.Frame{Kind: api.Got}, "\x0a\x00"},
	{api.Frame{Kind: api.Got, ID: 5}, "\x0a\x05"},
	{api.Frame{Kind: api.Got, ID: 63}, "\x0a\x3f"},
	{api.Frame{Kind: api.Got, ID: 64}, "\x0a\x40\x40"},
	{api.Frame{Kind: api.Got, ID: 16383}, "\x0a\x7f\xff"},
	{api.Frame{Kind: api.Got, ID: 16384}, "\x0a\x80\x00\x40\x00"},
	{api.Frame{Kind: api.Got, ID: 1<<30 - 1}, "\x0a\xbf\xff\xff\xff"},
	{api.Frame{Kind: api.Got, ID: 1 << 30}, "\x0a\xc0\x00\x00\x00\x40\x00\x00\x00"},
	{api.Frame{Kind: api.Got, ID: api.Most}, "\x0a" + top},
	{api.Frame{Kind: api.Away}, "\x0b\x00"},
	{api.Frame{Kind: api.Away, ID: 70}, "\x0b\x40\x46"},
	{api.Frame{Kind: api.Away, ID: api.Most}, "\x0b" + top},
	{api.Frame{Kind: api.Close}, "\x0c\x00"},
	{api.Frame{Kind: api.Close, A: 8}, "\x0c\x08"},
	{api.Frame{Kind: api.Close, A: api.Most}, "\x0c" + top},
}

// named: what each Kind names, as the chapter's table has it.
var named = []struct {
	kind  int
	names string
}{
	{api.Ping, ""},
	{api.Ack, "Spans"},
	{api.Stream, "ID Off Fin Data"},
	{api.Reset, "ID A Off B"},
	{api.Stop, "ID A"},
	{api.DataLimit, "A"},
	{api.StreamLimit, "ID A"},
	{api.StreamCount, "A Fin"},
	{api.Datagram, "Data"},
	{api.Got, "ID"},
	{api.Away, "ID"},
	{api.Close, "A"},
}

// filler is n bytes, hardly two alike side by side, the same each time.
func filler(n int) []byte {
	b := make([]byte, n)
	for k := range b {
		b[k] = byte(k*167 + k>>8 + 13)
	}
	return b
}

// full is a right frame of kind: what it names is not zero.
func full(kind int) api.Frame {
	f := api.Frame{Kind: kind}
	for _, c := range named {
		if c.kind != kind {
			continue
		}
		for _, name := range strings.Fields(c.names) {
			switch name {
			case "ID":
				f.ID = 3
			case "A":
				f.A = 4
			case "Off":
				f.Off = 5
			case "B":
				f.B = 2
			case "Fin":
				f.Fin = true
			case "Data":
				f.Data = []byte("some bytes")
			case "Spans":
				f.Spans = [][2]int{{7, 9}, {1, 2}}
			}
		}
	}
	return f
}

// all is each of the frames of laid, and all their bytes.
func all() (l []api.Frame, text string) {
	for _, c := range laid {
		l = append(l, c.f)
		text += c.want
	}
	return l, text
}

// copied is a frame of memory of its own, without spare room.
func copied(f api.Frame) api.Frame {
	f.Data = slices.Clone(f.Data)
	f.Spans = slices.Clone(f.Spans)
	return f
}

// bare is what is to be read of a frame: all but its Note, an empty list as nil.
func bare(f api.Frame) api.Frame {
	f.Note = 0
	if len(f.Data) == 0 {
		f.Data = nil
	}
	if len(f.Spans) == 0 {
		f.Spans = nil
	}
	return f
}

// alike holds each field against the other's by itself, not by a call of the package.
func alike(a, b []api.Frame) bool {
	if len(a) != len(b) {
		return false
	}
	for k := range a {
		if !reflect.DeepEqual(bare(a[k]), bare(b[k])) {
			return false
		}
	}
	return true
}

// wantRight holds a frame against what it is to be laid as; and reads it.
func wantRight(t *testing.T, f api.Frame, want string) {
	t.Helper()
	if !frame.Right(f) {
		t.Errorf("5.1: Right(%+v): false", f)
	}
	if n := frame.Size(f); n != len(want) {
		t.Errorf("5.1: Size(%+v): %d, not %d", f, n, len(want))
	}
	if b, e := frame.Lay(f); string(b) != want || e != api.OK {
		t.Errorf("5.1: Lay(%+v): % x, %d, not % x", f, b, e, want)
	}
	wantRead(t, want, f)
}

// wantRead holds what is read against what it is to be.
func wantRead(t *testing.T, text string, want ...api.Frame) {
	t.Helper()
	got, e := frame.Read([]byte(text))
	if e != api.OK || !alike(got, want) {
		t.Errorf("5.1: Read(% x): %+v, %d, not %+v", text, got, e, want)
		return
	}
	for _, f := range got {
		if f.Note != 0 {
			t.Errorf("R3: Read(% x): a Note: %+v", text, f)
		}
	}
}

// wantWrong holds a frame against what is not right: alone, and ahead of others, behind and between them.
func wantWrong(t *testing.T, name string, f api.Frame) {
	t.Helper()
	if frame.Right(f) {
		t.Errorf("5.1: %s: Right(%+v): true", name, f)
	}
	if n := frame.Size(f); n != -1 {
		t.Errorf("5.1: %s: Size(%+v): %d", name, f, n)
	}
	ping, got := api.Frame{Kind: api.Ping}, api.Frame{Kind: api.Got, ID: 5}
	for _, l := range [][]api.Frame{{f}, {f, ping}, {got, f}, {ping, f, got}, {f, f}} {
		if b, e := frame.Lay(l...); b != nil || e != api.ErrArg {
			t.Errorf("5.1: %s: Lay(%+v...): % x, %d", name, l, b, e)
		}
	}
}

// wantError holds the error of Read against what it is to be: alone, and behind frames that are all there.
func wantError(t *testing.T, text string, want api.Errno) {
	t.Helper()
	for _, ahead := range []string{"", "\x01", "\x09\x02ab\x02\x01\x05\x00"} {
		if got, e := frame.Read([]byte(ahead + text)); e != want || got != nil {
			t.Errorf("5.1: Read(% x): %+v, %d, not %d", ahead+text, got, e, want)
		}
	}
}

// TestExample: 5.1, the chapter's example.
func TestExample(t *testing.T) {
	ping, got := api.Frame{Kind: api.Ping}, api.Frame{Kind: api.Got, ID: 5}
	if b, e := frame.Lay(ping, got); string(b) != "\x01\x0a\x05" || e != api.OK {
		t.Errorf("5.1: Lay(Ping, Got 5): % x, %d", b, e)
	}
	wantRead(t, "\x01\x0a\x05", ping, got)
}

// TestEachKind: 5.1 and 5.2, each Kind laid and read, the edges of what it names among them.
func TestEachKind(t *testing.T) {
	for _, c := range laid {
		wantRight(t, c.f, c.want)
	}
	for _, c := range named {
		f := full(c.kind)
		wantRight(t, f, string(plainLay(f)))
	}
}

// TestLengths: 5.1, numbers in each length, in each place that a number has.
func TestLengths(t *testing.T) {
	for k := range 62 {
		for _, n := range []int{1<<k - 1, 1 << k, 1<<k + 1} {
			for _, f := range []api.Frame{
				{Kind: api.Stream, ID: n, Off: 1, Fin: true, Data: []byte("a")},
				{Kind: api.Stream, ID: 1, Off: n, Data: []byte("a")},
				{Kind: api.Reset, ID: n, A: 1, Off: 2, B: 1},
				{Kind: api.Reset, ID: 1, A: n, Off: 2, B: 1},
				{Kind: api.Reset, ID: 1, A: 2, Off: n, B: n - 1},
				{Kind: api.Stop, ID: n, A: 1},
				{Kind: api.StreamLimit, ID: 1, A: n},
				{Kind: api.StreamCount, A: n, Fin: true},
				{Kind: api.Ack, Spans: [][2]int{{0, n}}},
				{Kind: api.Ack, Spans: [][2]int{{n + 1, n + 1}, {0, 0}}},
				{Kind: api.Ack, Spans: [][2]int{{n, api.Most}}},
			} {
				if !plainRight(f) {
					wantWrong(t, "a number", f)
					continue
				}
				wantRight(t, f, string(plainLay(f)))
			}
		}
	}
}

// TestData: 5.1, Data of each length, and of more than may be.
func TestData(t *testing.T) {
	for n := range 200 {
		stream := api.Frame{Kind: api.Stream, ID: 1, Off: 2, Data: filler(n)}
		datagram := api.Frame{Kind: api.Datagram, Data: filler(n)}
		if n <= api.MaxData {
			wantRight(t, stream, string(plainLay(stream)))
		} else {
			wantWrong(t, "Data too long", stream)
		}
		if n >= 1 && n <= api.MaxData {
			wantRight(t, datagram, string(plainLay(datagram)))
		} else {
			wantWrong(t, "Data of such a length", datagram)
		}
	}
	for _, n := range []int{256, 257, 300, 512, 1 << 14, 1 << 16, 1 << 20} {
		wantWrong(t, "Data far too long", api.Frame{Kind: api.Stream, Data: make([]byte, n)})
		wantWrong(t, "Data far too long", api.Frame{Kind: api.Datagram, Data: make([]byte, n)})
	}
}

// TestEnd: 5.1, Off and the length together: just api.Most, and one more.
func TestEnd(t *testing.T) {
	for _, n := range []int{0, 1, 2, 63, 64, api.MaxData} {
		f := api.Frame{Kind: api.Stream, ID: 9, Off: api.Most - n, Data: filler(n)}
		wantRight(t, f, string(plainLay(f)))
		f.Off++
		wantWrong(t, "beyond Most", f)
	}
	for _, off := range []int{api.Most + 1, math.MaxInt - 1, math.MaxInt, -1, math.MinInt, math.MinInt + 1} {
		for _, n := range []int{0, 1, 2, api.MaxData} {
			wantWrong(t, "an Off that may not be", api.Frame{Kind: api.Stream, Off: off, Data: filler(n)})
		}
	}
}

// TestSure: 5.1, of a Reset B not above Off.
func TestSure(t *testing.T) {
	for _, off := range []int{0, 1, 70, 1 << 30, api.Most} {
		for _, b := range []int{0, off / 2, off - 1, off} {
			f := api.Frame{Kind: api.Reset, Off: off, B: b}
			if b < 0 {
				wantWrong(t, "B below 0", f)
				continue
			}
			wantRight(t, f, string(plainLay(f)))
		}
		for _, b := range []int{off + 1, off + 100, math.MaxInt} {
			wantWrong(t, "B above Off", api.Frame{Kind: api.Reset, Off: off, B: b})
		}
	}
}

// TestNote: 5.1, whatever the Note is, a frame is right, is laid and read without it.
func TestNote(t *testing.T) {
	for _, note := range []int{1, -1, 77, api.Most, api.Most + 1, math.MaxInt, math.MinInt} {
		for _, c := range laid {
			f := c.f
			f.Note = note
			wantRight(t, f, c.want)
		}
	}
}

// TestEmptyLists: R2, lists that are nil and empty ones are the same.
func TestEmptyLists(t *testing.T) {
	for _, c := range laid {
		f := c.f
		if len(f.Data) == 0 {
			f.Data = []byte{}
		}
		if len(f.Spans) == 0 {
			f.Spans = [][2]int{}
		}
		wantRight(t, f, c.want)
		if !frame.Same([]api.Frame{f}, []api.Frame{c.f}) || !frame.Same([]api.Frame{c.f}, []api.Frame{f}) {
			t.Errorf("R2: Same: an empty list and nil: %+v", c.f)
		}
		f.Data, f.Spans = make([]byte, 0, 9), make([][2]int, 0, 9)
		if len(c.f.Data) == 0 && len(c.f.Spans) == 0 {
			wantRight(t, f, c.want)
		}
	}
	wantWrong(t, "a Datagram of an empty list", api.Frame{Kind: api.Datagram, Data: []byte{}})
	wantWrong(t, "an Ack of an empty list", api.Frame{Kind: api.Ack, Spans: [][2]int{}})
}

// TestNone: 5.1, no frames, no bytes, as no arguments, nil and empty lists.
func TestNone(t *testing.T) {
	none := []api.Frame{}
	for k, lay := range []func() ([]byte, api.Errno){
		func() ([]byte, api.Errno) { return frame.Lay() },
		func() ([]byte, api.Errno) { return frame.Lay(nil...) },
		func() ([]byte, api.Errno) { return frame.Lay(none...) },
	} {
		if b, e := lay(); len(b) != 0 || e != api.OK {
			t.Errorf("5.1: Lay of none, %d: % x, %d", k, b, e)
		}
	}
	for _, b := range [][]byte{nil, {}, []byte("\x01\x01")[:0]} {
		if l, e := frame.Read(b); len(l) != 0 || e != api.OK {
			t.Errorf("5.1: Read of none: %+v, %d", l, e)
		}
	}
	if frame.Elicits() || frame.Elicits(nil...) || frame.Elicits(none...) {
		t.Error("5.1: Elicits of none")
	}
	if !frame.Same(nil, nil) || !frame.Same(nil, none) || !frame.Same(none, nil) || !frame.Same(none, none) {
		t.Error("5.1: Same of none")
	}
}

// TestMany: 5.2, many frames, one behind the other, in any order, as arguments and as a list that is spread.
func TestMany(t *testing.T) {
	l, text := all()
	for range 3 {
		if b, e := frame.Lay(l...); string(b) != text || e != api.OK {
			t.Errorf("5.1: Lay of all: % x, %d", b, e)
		}
		wantRead(t, text, l...)
		slices.Reverse(l)
		text = ""
		for _, f := range l {
			text += string(plainLay(f))
		}
	}
	for _, x := range laid {
		for _, y := range laid {
			b, e := frame.Lay(x.f, y.f, x.f)
			if string(b) != x.want+y.want+x.want || e != api.OK {
				t.Fatalf("5.1: Lay(%+v, %+v, ..): % x, %d", x.f, y.f, b, e)
			}
			wantRead(t, x.want+y.want, x.f, y.f)
		}
	}
}

// TestVeryMany: R1 and 5.2, so many that going over what is behind for each of them would not end.
func TestVeryMany(t *testing.T) {
	l, text := all()
	l, text = slices.Repeat(l, 5000), strings.Repeat(text, 5000)
	b, e := frame.Lay(l...)
	if string(b) != text || e != api.OK {
		t.Fatalf("5.1: Lay of %d: %d bytes, %d", len(l), len(b), e)
	}
	got, e := frame.Read(b)
	if e != api.OK || !frame.Same(got, l) || !alike(got, l) {
		t.Fatalf("5.2: Read of %d bytes: %d frames, %d", len(b), len(got), e)
	}
	if got, e := frame.Read(append(b, 0)); got != nil || e != api.ErrForm {
		t.Fatalf("5.1: Read of one byte too many: %d frames, %d", len(got), e)
	}
	if b, e := frame.Lay(append(l, api.Frame{})...); b != nil || e != api.ErrArg {
		t.Fatalf("5.1: Lay of one too many: %d bytes, %d", len(b), e)
	}
}

// TestKinds: 5.1, a Kind that is none: whatever it carries, laid or read.
func TestKinds(t *testing.T) {
	for _, kind := range []int{0, -1, -12, math.MinInt, math.MinInt + 1, 13, 14, 63, 64, 65, 256, 257, 1<<32 + 1, api.Most, api.Most + 1, math.MaxInt} {
		wantWrong(t, "a Kind that is none", api.Frame{Kind: kind})
		for _, c := range laid {
			f := c.f
			f.Kind = kind
			wantWrong(t, "a Kind that is none", f)
		}
	}
	for _, text := range []string{"\x00", "\x0d", "\x0e", "\x3f", "\x40\x00", "\x40\x0d", "\x41\x01", "\x80\x00\x01\x01", "\xc0\x00\x00\x01\x00\x00\x00\x01", top} {
		for _, behind := range []string{"", "\x00", "\x01", "\x05\x01\x02", "\xff", "\x40"} {
			wantError(t, text+behind, api.ErrForm)
		}
	}
}

// TestNotNamed: 5.1, each field that a Kind does not name: zero, or the frame is not right.
func TestNotNamed(t *testing.T) {
	setters, numbers := map[string]func(f *api.Frame, n int){
		"ID":  func(f *api.Frame, n int) { f.ID = n },
		"A":   func(f *api.Frame, n int) { f.A = n },
		"Off": func(f *api.Frame, n int) { f.Off = n },
		"B":   func(f *api.Frame, n int) { f.B = n },
	}, []int{1, 2, 64, api.Most, api.Most + 1, math.MaxInt, -1, math.MinInt}
	for _, c := range named {
		for _, f := range []api.Frame{full(c.kind), right(c.kind)} {
			names := strings.Fields(c.names)
			for name, set := range setters {
				for _, n := range numbers {
					g := f
					set(&g, n)
					if !slices.Contains(names, name) {
						wantWrong(t, name+", not named", g)
					}
				}
			}
			if g := f; !slices.Contains(names, "Fin") {
				g.Fin = true
				wantWrong(t, "Fin, not named", g)
			}
			for _, b := range [][]byte{{0}, {1}, filler(9), filler(api.MaxData), filler(api.MaxData + 1)} {
				if g := f; !slices.Contains(names, "Data") {
					g.Data = b
					wantWrong(t, "Data, not named", g)
				}
			}
			for _, l := range [][][2]int{{{0, 0}}, {{1, 2}}, eight, {{-1, -1}}, make([][2]int, 9)} {
				if g := f; !slices.Contains(names, "Spans") {
					g.Spans = l
					wantWrong(t, "Spans, not named", g)
				}
			}
		}
	}
}

// right is the least frame of kind that is right.
func right(kind int) api.Frame {
	f := api.Frame{Kind: kind}
	switch kind {
	case api.Ack:
		f.Spans = [][2]int{{0, 0}}
	case api.Datagram:
		f.Data = []byte{0}
	}
	return f
}

// TestNumbers: 5.1, each number that a Kind names: 0 to api.Most, and no other.
func TestNumbers(t *testing.T) {
	for _, n := range []int{-1, -2, -64, math.MinInt, math.MinInt + 1, api.Most + 1, api.Most + 2, math.MaxInt - 1, math.MaxInt} {
		for _, f := range []api.Frame{
			{Kind: api.Stream, ID: n, Off: 1, Data: []byte("a")},
			{Kind: api.Stream, ID: 1, Off: n, Data: []byte("a")},
			{Kind: api.Stream, Off: n},
			{Kind: api.Reset, ID: n, A: 1, Off: 1, B: 1},
			{Kind: api.Reset, ID: 1, A: n, Off: 1, B: 1},
			{Kind: api.Reset, ID: 1, A: 1, Off: n, B: 0},
			{Kind: api.Reset, ID: 1, A: 1, Off: n, B: n},
			{Kind: api.Reset, ID: 1, A: 1, Off: 1, B: n},
			{Kind: api.Stop, ID: n, A: 1},
			{Kind: api.Stop, ID: 1, A: n},
			{Kind: api.DataLimit, A: n},
			{Kind: api.StreamLimit, ID: n, A: 1},
			{Kind: api.StreamLimit, ID: 1, A: n},
			{Kind: api.StreamCount, A: n},
			{Kind: api.StreamCount, A: n, Fin: true},
			{Kind: api.Got, ID: n},
			{Kind: api.Away, ID: n},
			{Kind: api.Close, A: n},
			{Kind: api.Ack, Spans: [][2]int{{n, n}}},
			{Kind: api.Ack, Spans: [][2]int{{n, 5}}},
			{Kind: api.Ack, Spans: [][2]int{{5, n}}},
			{Kind: api.Ack, Spans: [][2]int{{9, 9}, {n, n}}},
			{Kind: api.Ack, Spans: [][2]int{{9, 9}, {n, 5}}},
			{Kind: api.Ack, Spans: [][2]int{{9, 9}, {5, n}}},
			{Kind: api.Ack, Spans: [][2]int{{9, 9}, {5, 5}, {n, 1}}},
			{Kind: api.Ack, Spans: [][2]int{{n, n}, {5, 5}}},
			{Kind: api.Ack, Spans: [][2]int{{5, n}, {1, 1}}},
		} {
			wantWrong(t, "a number that may not be", f)
		}
	}
}

// TestSpans: 5.1, runs that may be, and those that may not: rising, touching, turned about, too many.
func TestSpans(t *testing.T) {
	for _, l := range [][][2]int{
		{{0, 0}}, {{1, 1}}, {{0, 1}}, {{2, 2}, {0, 0}}, {{3, 9}, {0, 1}}, {{70, 80}, {5, 6}, {0, 2}}, eight, eight[:7], eight[1:],
		{{api.Most, api.Most}, {api.Most - 3, api.Most - 2}, {0, api.Most - 5}},
	} {
		f := api.Frame{Kind: api.Ack, Spans: l}
		wantRight(t, f, string(plainLay(f)))
	}
	for name, l := range map[string][][2]int{
		"none":                   nil,
		"turned about":           {{5, 4}},
		"turned about, second":   {{9, 9}, {5, 4}},
		"turned about, the last": {{9, 9}, {7, 7}, {1, 0}},
		"far turned about":       {{api.Most, 0}},
		"rising":                 {{1, 2}, {5, 6}},
		"rising, the last":       {{9, 9}, {1, 2}, {5, 6}},
		"the same":               {{5, 5}, {5, 5}},
		"the one in the other":   {{5, 9}, {6, 7}},
		"overlapping":            {{5, 9}, {3, 5}},
		"touching":               {{5, 6}, {1, 4}},
		"touching, at 0":         {{1, 1}, {0, 0}},
		"touching, the last":     {{9, 9}, {5, 6}, {1, 4}},
		"touching, at Most":      {{api.Most, api.Most}, {0, api.Most - 1}},
		"below 0":                {{-1, 4}},
		"below 0, whole":         {{-5, -4}},
		"below 0, the last":      {{5, 5}, {-2, 1}},
		"above Most":             {{0, api.Most + 1}},
		"a gap that wraps round": {{0, 0}, {math.MinInt, math.MinInt + 5}},
		"and from Most":          {{api.Most, api.Most}, {math.MinInt, math.MinInt}},
		"nine":                   append([][2]int{{16, 16}}, eight...),
		"nine, the first wrong":  append([][2]int{{15, 15}}, eight...),
		"nine of zeros":          make([][2]int, 9),
		"two of zeros":           make([][2]int, 2),
	} {
		wantWrong(t, name, api.Frame{Kind: api.Ack, Spans: l})
	}
	var many [][2]int
	for k := range 70 {
		many = append(many, [2]int{400 - 3*k, 401 - 3*k})
		f := api.Frame{Kind: api.Ack, Spans: many}
		if len(many) <= api.MaxSpans {
			wantRight(t, f, string(plainLay(f)))
		} else {
			wantWrong(t, "too many", f)
		}
	}
}

// TestSpansAll: 5.1, every two runs of small numbers, held against the chapter's words.
func TestSpansAll(t *testing.T) {
	for k := range 7 * 7 * 7 * 7 {
		f := api.Frame{Kind: api.Ack, Spans: [][2]int{{k%7 - 1, k/7%7 - 1}, {k/49%7 - 1, k/343 - 1}}}
		if plainRight(f) {
			wantRight(t, f, string(plainLay(f)))
		} else {
			wantWrong(t, "two runs", f)
		}
	}
}

// TestReadLongForms: 5.1, numbers in more bytes than they need, in each place.
func TestReadLongForms(t *testing.T) {
	five := api.Frame{Kind: api.Got, ID: 5}
	for _, kind := range []string{"\x0a", "\x40\x0a", "\x80\x00\x00\x0a", "\xc0\x00\x00\x00\x00\x00\x00\x0a"} {
		for _, id := range []string{"\x05", "\x40\x05", "\x80\x00\x00\x05", "\xc0\x00\x00\x00\x00\x00\x00\x05"} {
			wantRead(t, kind+id, five)
			wantRead(t, kind+id+kind+id, five, five)
		}
	}
	wantRead(t, "\x40\x01", api.Frame{Kind: api.Ping})
	wantRead(t, "\x02\x40\x02\x40\x05\x80\x00\x00\x01\x40\x03\x40\x00", api.Frame{Kind: api.Ack, Spans: [][2]int{{4, 5}, {1, 1}}})
	wantRead(t, "\x03\x40\x04\x40\x05\x40\x01\x80\x00\x00\x02ab", api.Frame{Kind: api.Stream, ID: 4, Off: 5, Fin: true, Data: []byte("ab")})
	wantRead(t, "\x03\x04\x05\xc0\x00\x00\x00\x00\x00\x00\x00\x40\x00", api.Frame{Kind: api.Stream, ID: 4, Off: 5})
	wantRead(t, "\x04\x40\x01\x40\x02\x40\x04\x40\x03", api.Frame{Kind: api.Reset, ID: 1, A: 2, Off: 4, B: 3})
	wantRead(t, "\x08\x40\x06\x80\x00\x00\x01", api.Frame{Kind: api.StreamCount, A: 6, Fin: true})
	wantRead(t, "\x09\xc0\x00\x00\x00\x00\x00\x00\x01x", api.Frame{Kind: api.Datagram, Data: []byte("x")})
	wantRead(t, "\x0c\x80\x00\x00\x08", api.Frame{Kind: api.Close, A: 8})
}

// TestReadCut: 5.1, bytes that end at every place, behind none and behind frames that are all there.
func TestReadCut(t *testing.T) {
	for _, c := range laid {
		for n := 1; n < len(c.want); n++ {
			wantError(t, c.want[:n], api.ErrShort)
			// What is behind, in the spare room, is not there.
			if got, e := frame.Read([]byte(c.want)[:n]); got != nil || e != api.ErrShort {
				t.Errorf("5.1: Read(% x): %+v, %d", c.want[:n], got, e)
			}
		}
	}
	for _, text := range []string{"\x40", "\x80\x00\x00", "\xc0", "\xff\xff\xff\xff\xff\xff\xff", "\x0a\xc0\x00\x00\x00\x00\x00\x00", "\x03\x00\x00\x40", "\x02\x40", "\x09\x40", "\x09\x40\x78" + string(filler(119)), "\x03\x00\x00\x00\x40\x78" + string(filler(119))} {
		wantError(t, text, api.ErrShort)
	}
}

// TestReadForm: 5.1, bytes that are none: told as soon as it is read, whether or not there is more.
func TestReadForm(t *testing.T) {
	for name, text := range map[string]string{
		"Stream, Fin 2":              "\x03\x00\x00\x02",
		"Stream, Fin 63":             "\x03\x00\x00\x3f",
		"Stream, Fin 256":            "\x03\x00\x00\x41\x00",
		"Stream, Fin Most":           "\x03\x00\x00" + top,
		"Stream, Fin 2, long":        "\x03\x00\x00\x40\x02",
		"StreamCount, Fin 2":         "\x08\x01\x02",
		"StreamCount, Fin 257":       "\x08\x01\x41\x01",
		"StreamCount, Fin Most":      "\x08\x01" + top,
		"Stream, length 121":         "\x03\x00\x00\x00\x40\x79",
		"Stream, length 256":         "\x03\x00\x00\x00\x41\x00",
		"Stream, length Most":        "\x03\x00\x00\x00" + top,
		"Stream, from Most, 121":     "\x03\x00" + top + "\x00\x40\x79",
		"Datagram, length 121":       "\x09\x40\x79",
		"Datagram, length 2^32":      "\x09\xc0\x00\x00\x01\x00\x00\x00\x00",
		"Datagram, length Most":      "\x09" + top,
		"Datagram, length 0":         "\x09\x00",
		"Datagram, length 0, long":   "\x09\x40\x00",
		"Ack, no runs":               "\x02\x00",
		"Ack, no runs, long":         "\x02\x40\x00",
		"Ack, 9 runs":                "\x02\x09",
		"Ack, 256 runs":              "\x02\x41\x00",
		"Ack, Most runs":             "\x02" + top,
		"Ack, first below 0":         "\x02\x01\x05\x06",
		"Ack, first of two below 0":  "\x02\x02\x05\x06",
		"Ack, first far below 0":     "\x02\x01\x00" + top,
		"Ack, gap 0":                 "\x02\x02\x05\x00\x00",
		"Ack, gap 1":                 "\x02\x02\x05\x00\x01",
		"Ack, gap 1, long":           "\x02\x02\x05\x00\x40\x01",
		"Ack, a run ends below 0":    "\x02\x02\x05\x00\x06",
		"Ack, a gap of Most":         "\x02\x02\x05\x00" + top,
		"Ack, second below 0":        "\x02\x02\x05\x00\x05\x01",
		"Ack, second far below 0":    "\x02\x02\x05\x00\x02" + top,
		"Ack, gap 0, third":          "\x02\x03\x09\x00\x02\x00\x00",
		"Ack, gap 1, third":          "\x02\x03\x09\x00\x02\x00\x01",
		"Ack, third ends below 0":    "\x02\x03\x09\x00\x02\x00\x08",
		"Ack, third below 0":         "\x02\x03\x09\x00\x02\x00\x02\x06",
		"Ack, of the former's first": "\x02\x02\x09\x05\x05",
		"Ack, eighth ends below 0":   "\x02\x08\x0d\x00" + strings.Repeat("\x02\x00", 6) + "\x02",
		"Reset, B above Off":         "\x04\x01\x02\x03\x04",
		"Reset, B far above Off":     "\x04\x01\x02\x00" + top,
		"Stream, beyond Most":        "\x03\x00" + top + "\x00\x01a",
		"Stream, beyond Most, 120":   "\x03\x00\xff\xff\xff\xff\xff\xff\xff\x88\x00\x40\x78" + string(filler(120)),
	} {
		for _, behind := range []string{"", "\x00", "\x01", "\x40", "\x0d\x02", string(filler(130))} {
			t.Run(name, func(t *testing.T) { wantError(t, text+behind, api.ErrForm) })
		}
	}
}

// TestReadEdges: 5.1, what is just not an error.
func TestReadEdges(t *testing.T) {
	wantRead(t, "\x02\x01\x05\x05", api.Frame{Kind: api.Ack, Spans: [][2]int{{0, 5}}})
	wantRead(t, "\x02\x02\x05\x00\x05\x00", api.Frame{Kind: api.Ack, Spans: [][2]int{{5, 5}, {0, 0}}})
	wantRead(t, "\x02\x02\x05\x00\x02\x03", api.Frame{Kind: api.Ack, Spans: [][2]int{{5, 5}, {0, 3}}})
	wantRead(t, "\x02\x02\x09\x05\x04\x00", api.Frame{Kind: api.Ack, Spans: [][2]int{{4, 9}, {0, 0}}})
	wantRead(t, "\x03\x00"+top+"\x00\x00", api.Frame{Kind: api.Stream, Off: api.Most})
	wantRead(t, "\x04\x01\x02\x03\x03", api.Frame{Kind: api.Reset, ID: 1, A: 2, Off: 3, B: 3})
	wantRead(t, "\x09\x40\x78"+string(filler(120)), api.Frame{Kind: api.Datagram, Data: filler(120)})
}

// TestReadFirst: 5.1, where several errors apply, the first from the left.
func TestReadFirst(t *testing.T) {
	for text, want := range map[string]api.Errno{
		// The Data is not all there, and would go beyond Most: that is told of a whole frame alone.
		"\x03\x00" + top + "\x00\x01": api.ErrShort,
		"\x03\x00" + top + "\x00\x40": api.ErrShort,
		"\x03\x00" + top + "\x02\x01": api.ErrForm,
		"\x03\x00" + top:              api.ErrShort,
		// A number that is not all there, ahead of what may not be.
		"\x03\x00\x00\x02\x40": api.ErrForm,
		"\x03\x00\x00\x01\x40": api.ErrShort,
		"\x03\x00\x00\x01\x02": api.ErrShort,
		"\x02\x09\x40":         api.ErrForm,
		"\x02\x08\x40":         api.ErrShort,
		"\x02\x02\x05\x06\x01": api.ErrForm,
		"\x02\x02\x05\x00\x40": api.ErrShort,
		"\x02\x02\x05\x00\x05": api.ErrShort,
		"\x02\x02\x05":         api.ErrShort,
		"\x02\x02\x05\x40":     api.ErrShort,
		"\x04\x01\x02\x00":     api.ErrShort,
		"\x04\x01\x02\x00\x40": api.ErrShort,
		"\x09\x02a":            api.ErrShort,
		"\x09\x40\x79a":        api.ErrForm,
		// A frame ahead that is none, or cut short by what comes behind.
		"\x0d\x40":             api.ErrForm,
		"\x40\x0d\x40":         api.ErrForm,
		"\x09\x00\x40":         api.ErrForm,
		"\x01\x01\x0d\x02":     api.ErrForm,
		"\x01\x40":             api.ErrShort,
		"\x01\x01\x02":         api.ErrShort,
		"\x0a\x05\x0a":         api.ErrShort,
		"\x08\x01\x01\x08\x01": api.ErrShort,
		"\x08\x01\x02\x08\x01": api.ErrForm,
	} {
		wantError(t, text, want)
	}
}

// TestElicits: 5.1, one that is neither Ack nor Close, in whatever place.
func TestElicits(t *testing.T) {
	ack, closing := full(api.Ack), full(api.Close)
	quiet := [][]api.Frame{{}, {ack}, {closing}, {ack, closing}, {closing, ack, ack}, slices.Repeat([]api.Frame{ack, closing}, 40)}
	for _, l := range quiet {
		if frame.Elicits(l...) {
			t.Errorf("5.1: Elicits(%+v...): true", l)
		}
		for kind := api.Ping; kind <= api.Close; kind++ {
			want := kind != api.Ack && kind != api.Close
			for at := range len(l) + 1 {
				if got := frame.Elicits(slices.Insert(slices.Clone(l), at, full(kind))...); got != want {
					t.Errorf("5.1: Elicits of kind %d at %d of %d: %t", kind, at, len(l), got)
				}
			}
		}
	}
	if !frame.Elicits(ack, full(api.Ping)) || !frame.Elicits(full(api.Got)) || !frame.Elicits(full(api.Ping), closing, full(api.Datagram)) || frame.Elicits(ack, closing) {
		t.Error("5.1: Elicits of arguments")
	}
	// Neither is asked of the Kind alone: it need not be right.
	if !frame.Elicits(api.Frame{}) || !frame.Elicits(ack, api.Frame{Kind: 13}) || frame.Elicits(api.Frame{Kind: api.Ack}, api.Frame{Kind: api.Close, A: -1}) {
		t.Error("5.1: Elicits of frames that are not right")
	}
}

// TestSame: 5.1, each of the frames is the same as itself alone; a Note makes no other.
func TestSame(t *testing.T) {
	seen := map[string]bool{}
	for j, x := range laid {
		if seen[x.want] {
			t.Fatalf("laid twice: % x", x.want)
		}
		seen[x.want] = true
		for k, y := range laid {
			one, other := copied(x.f), copied(y.f)
			one.Note, other.Note = 5, -6
			if got := frame.Same([]api.Frame{one}, []api.Frame{other}); got != (j == k) {
				t.Errorf("5.1: Same(%+v, %+v): %t", one, other, got)
			}
		}
	}
}

// TestSameFields: 5.1, frames that differ by one of what is laid.
func TestSameFields(t *testing.T) {
	x := api.Frame{Kind: api.Reset, ID: 1, A: 2, Off: 9, B: 4}
	s := api.Frame{Kind: api.Stream, ID: 1, Off: 9, Fin: true, Data: []byte("abc")}
	a := api.Frame{Kind: api.Ack, Spans: [][2]int{{7, 9}, {1, 4}}}
	for _, c := range []struct {
		f   api.Frame
		set func(f *api.Frame)
	}{
		{x, func(f *api.Frame) { f.ID = 3 }},
		{x, func(f *api.Frame) { f.A = 3 }},
		{x, func(f *api.Frame) { f.Off = 8 }},
		{x, func(f *api.Frame) { f.B = 3 }},
		{full(api.Got), func(f *api.Frame) { f.Kind = api.Away }},
		{full(api.Stop), func(f *api.Frame) { f.Kind = api.StreamLimit }},
		{full(api.DataLimit), func(f *api.Frame) { f.Kind = api.Close }},
		{s, func(f *api.Frame) { f.ID = 2 }},
		{s, func(f *api.Frame) { f.Off = 8 }},
		{s, func(f *api.Frame) { f.Fin = false }},
		{s, func(f *api.Frame) { f.Data = []byte("abd") }},
		{s, func(f *api.Frame) { f.Data = []byte("xbc") }},
		{s, func(f *api.Frame) { f.Data = []byte("ab") }},
		{s, func(f *api.Frame) { f.Data = []byte("abcd") }},
		{s, func(f *api.Frame) { f.Data = nil }},
		{a, func(f *api.Frame) { f.Spans[0][0] = 8 }},
		{a, func(f *api.Frame) { f.Spans[0][1] = 10 }},
		{a, func(f *api.Frame) { f.Spans[1][0] = 0 }},
		{a, func(f *api.Frame) { f.Spans[1][1] = 3 }},
		{a, func(f *api.Frame) { f.Spans = f.Spans[:1] }},
	} {
		one, other := copied(c.f), copied(c.f)
		ping := api.Frame{Kind: api.Ping}
		for _, l := range [][2][]api.Frame{{{one}, {other}}, {{ping, one}, {ping, other}}, {{one, ping}, {other, ping}}} {
			if !frame.Same(l[0], l[1]) {
				t.Errorf("5.1: Same(%+v, %+v): false", l[0], l[1])
			}
		}
		c.set(&other)
		for _, l := range [][2][]api.Frame{{{one}, {other}}, {{ping, one}, {ping, other}}, {{one, ping}, {other, ping}}} {
			if frame.Same(l[0], l[1]) || frame.Same(l[1], l[0]) {
				t.Errorf("5.1: Same(%+v, %+v): true", l[0], l[1])
			}
		}
	}
}

// TestSameNotRight: 5.1, frames that are not right: each field but the Note counts, whatever the Kind names.
func TestSameNotRight(t *testing.T) {
	ping, odd := api.Frame{Kind: api.Ping}, api.Frame{Kind: api.Ping, ID: -1, Data: filler(200), Note: 3}
	if !frame.Same([]api.Frame{odd, {Note: 1}}, []api.Frame{copied(odd), {Note: 2}}) {
		t.Error("5.1: Same of frames that are not right, with themselves: false")
	}
	for _, other := range []api.Frame{ping, {}, {Kind: api.Ping, ID: -2, Data: filler(200)}, {Kind: 13, ID: -1, Data: filler(200)}} {
		if frame.Same([]api.Frame{odd}, []api.Frame{other}) || frame.Same([]api.Frame{other}, []api.Frame{odd}) {
			t.Errorf("5.1: Same(%+v, %+v): true", odd, other)
		}
	}
}

// TestSameLists: 5.1, lists that differ by how many they are, or by their order.
func TestSameLists(t *testing.T) {
	l, _ := all()
	if !frame.Same(l, slices.Clone(l)) {
		t.Error("5.1: Same of a copy")
	}
	turned := slices.Clone(l)
	slices.Reverse(turned)
	for name, other := range map[string][]api.Frame{
		"none":          nil,
		"one":           l[:1],
		"all but one":   l[:len(l)-1],
		"but the first": l[1:],
		"one more":      append(slices.Clone(l), full(api.Ping)),
		"turned":        turned,
		"twice":         append(slices.Clone(l), l...),
	} {
		if frame.Same(l, other) || frame.Same(other, l) {
			t.Errorf("5.1: Same, %s: true", name)
		}
	}
}

// spare is a frame of which Data and Spans have spare room, that is not zero.
func spare(f api.Frame) api.Frame {
	f.Data = append(slices.Clone(f.Data), "spare room"...)[:len(f.Data)]
	f.Spans = append(slices.Clone(f.Spans), [2]int{-8, -9}, [2]int{-6, -7})[:len(f.Spans)]
	return f
}

// wholes is all that lists of frames hold, their spare room included, as a copy.
func wholes(l []api.Frame) []api.Frame {
	var w []api.Frame
	for _, f := range l[:cap(l)] {
		f.Data = slices.Clone(f.Data[:cap(f.Data)])
		f.Spans = slices.Clone(f.Spans[:cap(f.Spans)])
		w = append(w, f)
	}
	return w
}

// TestArgumentsStand: R2, what is handed in is not changed, spare room and a list that is spread included.
func TestArgumentsStand(t *testing.T) {
	room := make([]api.Frame, 0, 100)
	for _, c := range laid {
		room = append(room, spare(c.f))
	}
	_, text := all()
	was, b := wholes(room), []byte(text+"spare room")
	for _, f := range room {
		frame.Right(f)
		frame.Size(f)
	}
	frame.Elicits(room...)
	frame.Same(room, room)
	if _, e := frame.Lay(room...); e != api.OK {
		t.Errorf("5.1: Lay of lists with spare room: %d", e)
	}
	frame.Lay(append(slices.Clone(room), api.Frame{Kind: 99})...)
	if _, e := frame.Read(b[:len(text)]); e != api.OK {
		t.Errorf("5.1: Read of a list with spare room: %d", e)
	}
	frame.Read(b[:len(text)-1])
	if !reflect.DeepEqual(wholes(room), was) {
		t.Error("R2: frames handed in and changed")
	}
	if string(b) != text+"spare room" {
		t.Error("R2: bytes handed in and changed")
	}
}

// TestLayIsNew: R2, what is laid shares nothing with what was handed in, nor with what is laid another time.
func TestLayIsNew(t *testing.T) {
	for _, c := range laid {
		for _, l := range [][]api.Frame{{spare(c.f)}, {spare(c.f), spare(full(api.Datagram)), spare(full(api.Ack))}} {
			was := wholes(l)
			one, _ := frame.Lay(l...)
			other, _ := frame.Lay(l...)
			kept := string(other[:cap(other)])
			one = one[:cap(one)]
			for k := range one {
				one[k] ^= 0xee
			}
			if string(other[:cap(other)]) != kept || !reflect.DeepEqual(wholes(l), was) {
				t.Errorf("R2: Lay(%+v...): shares memory", l)
			}
			text := string(other)
			for k := range l {
				clear(l[k].Data[:cap(l[k].Data)])
				clear(l[k].Spans[:cap(l[k].Spans)])
				l[k] = api.Frame{}
			}
			if string(other) != text {
				t.Errorf("R2: Lay: keeps what was handed in: % x", text)
			}
		}
	}
}

// scrub writes into all that a frame holds, spare room too.
func scrub(f *api.Frame) {
	for k := range f.Data[:cap(f.Data)] {
		f.Data[:cap(f.Data)][k] ^= 0xee
	}
	for k := range f.Spans[:cap(f.Spans)] {
		f.Spans[:cap(f.Spans)][k] = [2]int{-77, -77}
	}
	f.Kind, f.ID, f.A = -77, -77, -77
}

// TestReadIsNew: R2, what is read shares nothing with the bytes, nor one part of it with another, spare room too.
func TestReadIsNew(t *testing.T) {
	l, text := all()
	for at := range l {
		b := []byte(text + "spare room")
		one, e1 := frame.Read(b[:len(text)])
		other, e2 := frame.Read(b[:len(text)])
		if e1 != api.OK || e2 != api.OK || !alike(one, l) || !alike(other, l) {
			t.Fatalf("5.2: Read of all: %d, %d", e1, e2)
		}
		clear(one[len(one):cap(one)])
		scrub(&one[at])
		if string(b) != text+"spare room" {
			t.Fatalf("R2: Read, frame %d: shares memory with the bytes", at)
		}
		clear(b)
		if !alike(other, l) || !alike(one[:at], l[:at]) || !alike(one[at+1:], l[at+1:]) {
			t.Fatalf("R2: Read, frame %d: shares memory with others", at)
		}
	}
}

// TestSameEachTime: R4, what is answered hangs on nothing but what is handed in.
func TestSameEachTime(t *testing.T) {
	l, text := all()
	for range 5 {
		if _, e := frame.Lay(append(slices.Clone(l), api.Frame{})...); e != api.ErrArg {
			t.Errorf("5.1: Lay of one that is not right: %d", e)
		}
		frame.Read([]byte(text[:len(text)-3]))
		b, e := frame.Lay(l...)
		if string(b) != text || e != api.OK {
			t.Errorf("R4: Lay of all: %d", e)
		}
		wantRead(t, text, l...)
	}
}

// plainPut is a number as chapter 1 words it.
func plainPut(n int) []byte {
	switch {
	case n < 64:
		return []byte{byte(n)}
	case n < 16384:
		return []byte{64 + byte(n/256), byte(n)}
	case n < 1<<30:
		return []byte{128 + byte(n/256/256/256), byte(n / 256 / 256), byte(n / 256), byte(n)}
	}
	return append([]byte{192 + byte(n>>56), byte(n >> 48), byte(n >> 40), byte(n >> 32)}, byte(n>>24), byte(n>>16), byte(n>>8), byte(n))
}

// plainLay is a right frame as the chapter's table words it, row by row.
func plainLay(f api.Frame) []byte {
	fin := 0
	if f.Fin {
		fin = 1
	}
	var n []int
	switch f.Kind {
	case api.Ack:
		n = []int{len(f.Spans), f.Spans[0][1], f.Spans[0][1] - f.Spans[0][0]}
		for k := 1; k < len(f.Spans); k++ {
			n = append(n, f.Spans[k-1][0]-f.Spans[k][1], f.Spans[k][1]-f.Spans[k][0])
		}
	case api.Stream:
		n = []int{f.ID, f.Off, fin, len(f.Data)}
	case api.Reset:
		n = []int{f.ID, f.A, f.Off, f.B}
	case api.Stop, api.StreamLimit:
		n = []int{f.ID, f.A}
	case api.DataLimit, api.Close:
		n = []int{f.A}
	case api.StreamCount:
		n = []int{f.A, fin}
	case api.Datagram:
		n = []int{len(f.Data)}
	case api.Got, api.Away:
		n = []int{f.ID}
	}
	b := []byte{byte(f.Kind)}
	for _, v := range n {
		b = append(b, plainPut(v)...)
	}
	return append(b, f.Data...)
}

// plainRight is Right as the chapter words it: what is named is held against its bounds, and the rest, with it made zero, against nothing.
func plainRight(f api.Frame) bool {
	may := func(n int) bool { return n >= 0 && n <= api.Most }
	g := f
	ok := true
	switch f.Kind {
	case api.Ping:
	case api.Ack:
		ok = len(f.Spans) >= 1 && len(f.Spans) <= 8
		for k, s := range f.Spans {
			ok = ok && may(s[0]) && may(s[1]) && s[0] <= s[1]
			ok = ok && (k == 0 || f.Spans[k-1][0]-s[1] >= 2)
		}
		g.Spans = nil
	case api.Stream:
		ok = may(f.ID) && may(f.Off) && len(f.Data) <= 120 && f.Off+len(f.Data) <= api.Most
		g.ID, g.Off, g.Fin, g.Data = 0, 0, false, nil
	case api.Reset:
		ok = may(f.ID) && may(f.A) && may(f.Off) && may(f.B) && f.B <= f.Off
		g.ID, g.A, g.Off, g.B = 0, 0, 0, 0
	case api.Stop, api.StreamLimit:
		ok = may(f.ID) && may(f.A)
		g.ID, g.A = 0, 0
	case api.DataLimit, api.Close:
		ok = may(f.A)
		g.A = 0
	case api.StreamCount:
		ok = may(f.A)
		g.A, g.Fin = 0, false
	case api.Datagram:
		ok = len(f.Data) >= 1 && len(f.Data) <= 120
		g.Data = nil
	case api.Got, api.Away:
		ok = may(f.ID)
		g.ID = 0
	default:
		return false
	}
	return ok && reflect.DeepEqual(bare(g), api.Frame{Kind: f.Kind})
}

// plainReader goes over bytes as the chapter words it; it panics with the first error from the left.
type plainReader struct{ b []byte }

func (r *plainReader) number() int {
	if len(r.b) == 0 || len(r.b) < 1<<(r.b[0]/64) {
		panic(api.ErrShort)
	}
	w := 1 << (r.b[0] / 64)
	n := int(r.b[0] % 64)
	for _, c := range r.b[1:w] {
		n = n*256 + int(c)
	}
	r.b = r.b[w:]
	return n
}

func (r *plainReader) upTo(from, to int) int {
	n := r.number()
	if n < from || n > to {
		panic(api.ErrForm)
	}
	return n
}

func (r *plainReader) data() []byte {
	n := r.upTo(0, 120)
	if n > len(r.b) {
		panic(api.ErrShort)
	}
	d := slices.Clone(r.b[:n])
	r.b = r.b[n:]
	return d
}

func (r *plainReader) frame() api.Frame {
	f := api.Frame{Kind: r.upTo(1, 12)}
	switch f.Kind {
	case api.Ack:
		count := r.upTo(1, 8)
		last := r.number()
		first := last - r.upTo(0, last)
		f.Spans = append(f.Spans, [2]int{first, last})
		for range count - 1 {
			last = first - r.upTo(2, first)
			first = last - r.upTo(0, last)
			f.Spans = append(f.Spans, [2]int{first, last})
		}
	case api.Stream:
		f.ID, f.Off, f.Fin, f.Data = r.number(), r.number(), r.upTo(0, 1) == 1, r.data()
	case api.Reset:
		f.ID, f.A, f.Off, f.B = r.number(), r.number(), r.number(), r.number()
	case api.Stop, api.StreamLimit:
		f.ID, f.A = r.number(), r.number()
	case api.DataLimit, api.Close:
		f.A = r.number()
	case api.StreamCount:
		f.A, f.Fin = r.number(), r.upTo(0, 1) == 1
	case api.Datagram:
		f.Data = r.data()
	case api.Got, api.Away:
		f.ID = r.number()
	}
	if !plainRight(f) {
		panic(api.ErrForm)
	}
	return f
}

func plainRead(b []byte) (l []api.Frame, e api.Errno) {
	defer func() {
		if e, _ = recover().(api.Errno); e != api.OK {
			l = nil
		}
	}()
	r := plainReader{slices.Clone(b)}
	for len(r.b) > 0 {
		l = append(l, r.frame())
	}
	return l, api.OK
}

// dice gives numbers, the same each time.
type dice uint64

func (d *dice) upTo(n int) int {
	*d = *d*6364136223846793005 + 1442695040888963407
	return int(uint64(*d) >> 33 % uint64(n))
}

// number is one of any length, now and then one at an edge.
func (d *dice) number() int {
	switch d.upTo(8) {
	case 0:
		return 0
	case 1:
		return api.Most
	case 2:
		return []int{63, 64, 16383, 16384, 1<<30 - 1, 1 << 30}[d.upTo(6)]
	}
	return (d.upTo(1<<31)<<31 | d.upTo(1<<31)) >> d.upTo(62)
}

func (d *dice) bytes(most int) []byte {
	b := make([]byte, d.upTo(most+1))
	for k := range b {
		b[k] = byte(d.upTo(256))
	}
	return b
}

// frame is a right one, of any Kind.
func (d *dice) frame() api.Frame {
	f := full(1 + d.upTo(12))
	f.Note = d.number() - d.number()
	for _, n := range []*int{&f.ID, &f.A, &f.Off} {
		if *n != 0 {
			*n = d.number()
		}
	}
	f.B = min(f.B*d.number()/2, f.Off)
	f.Fin = f.Fin && d.upTo(2) == 0
	if f.Data != nil {
		f.Data = d.bytes(api.MaxData)
		f.Off = min(f.Off, api.Most-len(f.Data))
	}
	if f.Kind == api.Datagram {
		f.Data = append(f.Data, 7)[:max(1, len(f.Data))]
	}
	if f.Spans != nil {
		f.Spans = d.spans()
	}
	return f
}

func (d *dice) spans() [][2]int {
	last := d.number()
	var l [][2]int
	for range 1 + d.upTo(api.MaxSpans) {
		first := last - min(last, d.number()>>d.upTo(62))
		l = append(l, [2]int{first, last})
		last = first - 2 - d.number()>>d.upTo(62)
		if last < 0 {
			break
		}
	}
	return l
}

// TestThereAndBack: 5.2, frames of all Kinds, however many, laid as the chapter's words say, are read the same.
func TestThereAndBack(t *testing.T) {
	d := dice(5)
	for range 20000 {
		var l []api.Frame
		var want []byte
		for range d.upTo(12) {
			f := d.frame()
			if !plainRight(f) || frame.Size(f) != len(plainLay(f)) {
				t.Fatalf("5.1: Size(%+v): %d", f, frame.Size(f))
			}
			l = append(l, f)
			want = append(want, plainLay(f)...)
		}
		b, e := frame.Lay(l...)
		if e != api.OK || !bytes.Equal(b, want) {
			t.Fatalf("5.1: Lay(%+v...): % x, %d", l, b, e)
		}
		got, e := frame.Read(b)
		if e != api.OK || !alike(got, l) || !frame.Same(got, l) || !frame.Same(l, got) {
			t.Fatalf("5.2: Read(% x): %+v, %d, not %+v", b, got, e, l)
		}
	}
}

// TestReadPlain: 5.1, bytes turned, put in, taken out and cut, and some of any kind: held against the chapter's words.
func TestReadPlain(t *testing.T) {
	d := dice(55)
	seen := map[api.Errno]int{}
	for range 150000 {
		var b []byte
		for range d.upTo(4) {
			b = append(b, plainLay(d.frame())...)
		}
		if d.upTo(8) == 0 {
			b = d.bytes(20)
		}
		for range d.upTo(4) {
			if at := d.upTo(len(b) + 1); at < len(b) {
				switch d.upTo(4) {
				case 0:
					b[at] = byte(d.upTo(256))
				case 1:
					b[at] = byte(d.upTo(14))
				case 2:
					b = slices.Insert(b, at, byte(d.upTo(256)))
				case 3:
					b = slices.Delete(b, at, min(at+1+d.upTo(3), len(b)))
				}
			}
		}
		b = b[:len(b)-d.upTo(min(len(b), 2)+1)]
		want, wantE := plainRead(b)
		got, e := frame.Read(b)
		if e != wantE || !alike(got, want) {
			t.Fatalf("5.1: Read(% x): %+v, %d, not %+v, %d", b, got, e, want, wantE)
		}
		if again, e := frame.Lay(got...); e != api.OK || len(again) > len(b) {
			t.Fatalf("5.1: Lay of what was read of % x: % x, %d", b, again, e)
		}
		seen[e]++
	}
	if seen[api.OK] < 10000 || seen[api.ErrForm] < 10000 || seen[api.ErrShort] < 10000 {
		t.Errorf("too few of a kind: %v", seen)
	}
}

// TestReadSmall: 5.1, every three bytes behind the Kinds that say the most, of those that mean anything.
func TestReadSmall(t *testing.T) {
	some := []byte{0, 1, 2, 3, 5, 8, 9, 12, 13, 64, 120, 121, 128, 192, 255}
	for _, ahead := range []string{"", "\x02", "\x02\x02\x05", "\x03\x00", "\x04\x01\x02", "\x08", "\x09"} {
		for k := range len(some) * len(some) * len(some) {
			b := append([]byte(ahead), some[k%len(some)], some[k/len(some)%len(some)], some[k/len(some)/len(some)])
			want, wantE := plainRead(b)
			if got, e := frame.Read(b); e != wantE || !alike(got, want) {
				t.Fatalf("5.1: Read(% x): %+v, %d, not %+v, %d", b, got, e, want, wantE)
			}
		}
	}
}

// TestRightPlain: 5.1, frames with one or two fields that are others: held against the chapter's words.
func TestRightPlain(t *testing.T) {
	d := dice(555)
	odd := []int{0, 1, 2, 12, 13, -1, math.MinInt, math.MaxInt, api.Most, api.Most + 1, api.Most - 120}
	count := 0
	for range 100000 {
		f := copied(d.frame())
		for range 1 + d.upTo(2) {
			n := odd[d.upTo(len(odd))]
			switch d.upTo(9) {
			case 0:
				f.Kind = n
			case 1:
				f.ID = n
			case 2:
				f.A = n
			case 3:
				f.Off = n
			case 4:
				f.B = n
			case 5:
				f.Fin = !f.Fin
			case 6:
				f.Data = make([]byte, d.upTo(130))
			case 7:
				f.Spans = append(f.Spans, [2]int{n, odd[d.upTo(len(odd))]})
			case 8:
				if len(f.Spans) > 0 {
					f.Spans[d.upTo(len(f.Spans))][d.upTo(2)] += d.upTo(7) - 3
				}
			}
		}
		want := plainRight(f)
		if got := frame.Right(f); got != want {
			t.Fatalf("5.1: Right(%+v): %t", f, got)
		}
		size, b := -1, []byte(nil)
		if want {
			b = plainLay(f)
			size = len(b)
			count++
		}
		if got, e := frame.Lay(f); (e == api.OK) != want || !bytes.Equal(got, b) || frame.Size(f) != size {
			t.Fatalf("5.1: Lay(%+v): % x, %d; Size: %d", f, got, e, frame.Size(f))
		}
	}
	if count < 5000 || count > 95000 {
		t.Errorf("right: %d", count)
	}
}
