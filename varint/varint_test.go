package varint_test

import (
	"bytes"
	"math"
	"slices"
	"testing"

	"argosy/api"
	"argosy/varint"
)

// laid: each length, its ends and some between, as bytes.
var laid = []struct {
	n    int
	want string
}{
	{0, "\x00"},
	{1, "\x01"},
	{37, "\x25"},
	{63, "\x3f"},
	{64, "\x40\x40"},
	{255, "\x40\xff"},
	{256, "\x41\x00"},
	{15293, "\x7b\xbd"},
	{16383, "\x7f\xff"},
	{16384, "\x80\x00\x40\x00"},
	{0x123456, "\x80\x12\x34\x56"},
	{494878333, "\x9d\x7f\x3e\x7d"},
	{1<<30 - 1, "\xbf\xff\xff\xff"},
	{1 << 30, "\xc0\x00\x00\x00\x40\x00\x00\x00"},
	{1<<32 - 1, "\xc0\x00\x00\x00\xff\xff\xff\xff"},
	{0x0102030405060708, "\xc1\x02\x03\x04\x05\x06\x07\x08"},
	{151288809941952652, "\xc2\x19\x7c\x5e\xff\x14\xe8\x8c"},
	{api.Most - 1, "\xff\xff\xff\xff\xff\xff\xff\xfe"},
	{api.Most, "\xff\xff\xff\xff\xff\xff\xff\xff"},
}

// wrong: numbers that may not be.
var wrong = []int{-1, -64, math.MinInt, api.Most + 1, math.MaxInt}

// numbers gives each power of two, what is beside it, and n others of every length, the same each time.
func numbers(n int) []int {
	var l []int
	for k := range 62 {
		l = append(l, 1<<k-1, 1<<k, 1<<k+1)
	}
	l = append(l, api.Most-1, api.Most)
	x := uint64(1)
	for k := range n {
		x = x*6364136223846793005 + 1442695040888963407
		l = append(l, int(x>>2>>(k%62)))
	}
	return l
}

// TestExample: 1.1, the chapter's example.
func TestExample(t *testing.T) {
	if b := varint.Put(nil, 37, 15293); string(b) != "\x25\x7b\xbd" {
		t.Errorf("1.1: Put(nil, 37, 15293): % x", b)
	}
}

// TestLengths: 1.1, each number in the fewest bytes, the highest first.
func TestLengths(t *testing.T) {
	for _, c := range laid {
		if s := varint.Size(c.n); s != len(c.want) {
			t.Errorf("1.1: Size(%d): %d, not %d", c.n, s, len(c.want))
		}
		if b := varint.Put(nil, c.n); string(b) != c.want {
			t.Errorf("1.1: Put(nil, %d): % x, not % x", c.n, b, c.want)
		}
		if b := varint.Put([]byte("ahead"), c.n); string(b) != "ahead"+c.want {
			t.Errorf("1.1: Put(ahead, %d): % x", c.n, b)
		}
		for _, behind := range []string{"", "\x00", "behind"} {
			n, rest, e := varint.Take([]byte(c.want + behind))
			if n != c.n || string(rest) != behind || e != api.OK {
				t.Errorf("1.1: Take(% x): %d, %q, %d", c.want+behind, n, rest, e)
			}
		}
	}
}

// TestSeveral: 1.1, several numbers, one behind the other.
func TestSeveral(t *testing.T) {
	var all []int
	want := ""
	for _, c := range laid {
		all = append(all, c.n)
		want += c.want
		if s := varint.Size(all...); s != len(want) {
			t.Errorf("1.1: Size(%v...): %d, not %d", all, s, len(want))
		}
		if b := varint.Put([]byte("ab"), all...); string(b) != "ab"+want {
			t.Errorf("1.1: Put(ab, %v...): % x", all, b)
		}
	}
}

// TestNone: 1.1, no numbers, as no arguments and as an empty list.
func TestNone(t *testing.T) {
	none := []int{}
	if varint.Size() != 0 || varint.Size(nil...) != 0 || varint.Size(none...) != 0 {
		t.Error("1.1: Size of none is not 0")
	}
	for _, b := range [][]byte{nil, {}, {0}, []byte("alone")} {
		for _, got := range [][]byte{varint.Put(b), varint.Put(b, nil...), varint.Put(b, none...)} {
			if !bytes.Equal(got, b) {
				t.Errorf("1.1: Put(%q) of none: %q", b, got)
			}
		}
	}
}

// TestWrongNumbers: 1.1, one number that may not be, in whatever place.
func TestWrongNumbers(t *testing.T) {
	for _, n := range wrong {
		for _, l := range [][]int{{n}, {n, 1}, {1, n}, {1, n, 2}, {api.Most, 70, n}, {n, n}} {
			if s := varint.Size(l...); s != -1 {
				t.Errorf("1.1: Size(%v...): %d", l, s)
			}
			if b := varint.Put([]byte("a"), l...); b != nil {
				t.Errorf("1.1: Put(a, %v...): % x", l, b)
			}
			if b := varint.Put(nil, l...); b != nil {
				t.Errorf("1.1: Put(nil, %v...): % x", l, b)
			}
		}
	}
}

// TestTakeLongForms: 1.1, a number in more bytes than it needs.
func TestTakeLongForms(t *testing.T) {
	for s, want := range map[string]int{
		"\x40\x00":                         0,
		"\x40\x05":                         5,
		"\x40\x3f":                         63,
		"\x80\x00\x00\x00":                 0,
		"\x80\x00\x00\x05":                 5,
		"\x80\x00\x3f\xff":                 16383,
		"\xc0\x00\x00\x00\x00\x00\x00\x00": 0,
		"\xc0\x00\x00\x00\x00\x00\x00\x05": 5,
		"\xc0\x00\x00\x00\x3f\xff\xff\xff": 1<<30 - 1,
	} {
		n, rest, e := varint.Take([]byte(s + "\xaa"))
		if n != want || string(rest) != "\xaa" || e != api.OK {
			t.Errorf("1.1: Take(% x): %d, % x, %d", s, n, rest, e)
		}
		l, rest, e := varint.Takes([]byte(s+s), 2)
		if !slices.Equal(l, []int{want, want}) || len(rest) != 0 || e != api.OK {
			t.Errorf("1.1: Takes(% x twice, 2): %v, % x, %d", s, l, rest, e)
		}
	}
}

// TestTakeFirstByte: 1.1, whatever the first byte is, its two highest bits alone tell the length.
func TestTakeFirstByte(t *testing.T) {
	tail := []byte{1, 2, 3, 4, 5, 6, 7}
	for first := range 256 {
		width := []int{1, 2, 4, 8}[first/64]
		want := first % 64
		for _, c := range tail[:width-1] {
			want = want*256 + int(c)
		}
		b := append([]byte{byte(first)}, tail...)
		n, rest, e := varint.Take(b)
		if n != want || !bytes.Equal(rest, b[width:]) || e != api.OK {
			t.Errorf("1.1: Take(% x): %d, % x, %d; not %d", b, n, rest, e, want)
		}
	}
}

// TestTakeShort: 1.1 and R3, a number that is not all there.
func TestTakeShort(t *testing.T) {
	if n, rest, e := varint.Take(nil); n != 0 || rest != nil || e != api.ErrShort {
		t.Errorf("1.1: Take(nil): %d, % x, %d", n, rest, e)
	}
	for _, c := range laid {
		for k := range len(c.want) {
			n, rest, e := varint.Take([]byte(c.want[:k]))
			if n != 0 || rest != nil || e != api.ErrShort {
				t.Errorf("1.1: Take(% x): %d, % x, %d", c.want[:k], n, rest, e)
			}
		}
	}
}

// TestTakeEndsAtLength: 1.1, bytes in the list's spare room are not there.
func TestTakeEndsAtLength(t *testing.T) {
	b := []byte("\x40\x05\x06")
	if n, rest, e := varint.Take(b[:1]); n != 0 || rest != nil || e != api.ErrShort {
		t.Errorf("1.1: Take into the spare room: %d, % x, %d", n, rest, e)
	}
	if l, rest, e := varint.Takes(b[:2], 2); l != nil || rest != nil || e != api.ErrShort {
		t.Errorf("1.1: Takes into the spare room: %v, % x, %d", l, rest, e)
	}
}

// TestTakes: 1.1, so many numbers and what is behind; of a count below 1 none.
func TestTakes(t *testing.T) {
	b := []byte("\x25\x7b\xbd\x00tail")
	for _, c := range []struct {
		count int
		want  []int
		rest  string
	}{
		{math.MinInt, nil, "\x25\x7b\xbd\x00tail"},
		{-1, nil, "\x25\x7b\xbd\x00tail"},
		{0, nil, "\x25\x7b\xbd\x00tail"},
		{1, []int{37}, "\x7b\xbd\x00tail"},
		{2, []int{37, 15293}, "\x00tail"},
		{3, []int{37, 15293, 0}, "tail"},
	} {
		l, rest, e := varint.Takes(b, c.count)
		if !slices.Equal(l, c.want) || string(rest) != c.rest || e != api.OK {
			t.Errorf("1.1: Takes(% x, %d): %v, %q, %d", b, c.count, l, rest, e)
		}
	}
	for _, count := range []int{0, -1, math.MinInt} {
		if l, rest, e := varint.Takes(nil, count); len(l) != 0 || len(rest) != 0 || e != api.OK {
			t.Errorf("1.1: Takes(nil, %d): %v, % x, %d", count, l, rest, e)
		}
	}
}

// TestTakesShort: 1.1 and R3, fewer numbers than were asked for: none of them is answered.
func TestTakesShort(t *testing.T) {
	for _, c := range []struct {
		b     string
		count int
	}{
		{"", 1},
		{"\x01", 2},
		{"\x40", 1},
		{"\x01\x40", 2},
		{"\x01\x02\x80\x00\x00", 3},
		{"\x01\xc0\x00\x00\x00\x00\x00\x00", 2},
		{"\x01\x40\x05\x00", 4},
		{"\x01\x02\x03", math.MaxInt},
	} {
		l, rest, e := varint.Takes([]byte(c.b), c.count)
		if l != nil || rest != nil || e != api.ErrShort {
			t.Errorf("1.1: Takes(% x, %d): %v, % x, %d", c.b, c.count, l, rest, e)
		}
	}
}

// TestRoundTrip: 1.2, what was put is taken again.
func TestRoundTrip(t *testing.T) {
	all := numbers(4000)
	for _, n := range all {
		b := varint.Put(nil, n)
		if len(b) != varint.Size(n) {
			t.Fatalf("1.2: Put(nil, %d) has %d bytes, Size is %d", n, len(b), varint.Size(n))
		}
		got, rest, e := varint.Take(varint.Put(b, 9))
		if got != n || string(rest) != "\x09" || e != api.OK {
			t.Fatalf("1.2: %d comes back as %d, % x, %d", n, got, rest, e)
		}
	}
	for k := 0; k <= len(all); k += 97 {
		b := varint.Put(nil, all[:k]...)
		l, rest, e := varint.Takes(append(b, "tail"...), k)
		if !slices.Equal(l, all[:k]) || string(rest) != "tail" || e != api.OK || len(b) != varint.Size(all[:k]...) {
			t.Fatalf("1.2: %d numbers come back as %d, %q, %d", k, len(l), rest, e)
		}
		for n := range all[:k] {
			got, behind, e := varint.Take(b)
			if got != all[n] || e != api.OK {
				t.Fatalf("1.2: number %d of %d comes back as %d, %d", n, k, got, e)
			}
			b = behind
		}
		if len(b) != 0 {
			t.Fatalf("1.2: behind %d numbers: % x", k, b)
		}
	}
}

// TestArgumentsStand: R2, what is handed in is not changed, its spare room included.
func TestArgumentsStand(t *testing.T) {
	room := []byte("abcdefghijkl")
	list := []int{5, 70, 20000, 1 << 40, -1}
	varint.Put(room[:2], list[:4]...)
	varint.Put(room[:2], list...)
	varint.Size(list...)
	varint.Take(room[:2])
	varint.Takes(room[:2], 1)
	if string(room) != "abcdefghijkl" || !slices.Equal(list, []int{5, 70, 20000, 1 << 40, -1}) {
		t.Errorf("R2: handed in and changed: %q, %v", room, list)
	}
}

// fill overwrites a list and its spare room.
func fill(b []byte) {
	b = b[:cap(b)]
	for k := range b {
		b[k] = 0xee
	}
}

// TestAnswersAreNew: R2, an answer shares nothing with what was handed in, nor with another answer.
func TestAnswersAreNew(t *testing.T) {
	room := []byte("\x01\x02\x03\x04\x05\x06\x07\x08")
	want := string(room)
	short := room[:4]
	for name, answer := range map[string]func() []byte{
		"Put of none":         func() []byte { return varint.Put(short) },
		"Put":                 func() []byte { return varint.Put(short, 7) },
		"Put of an empty one": func() []byte { return varint.Put(room[:0], 7) },
		"Take": func() []byte {
			_, rest, _ := varint.Take(short)
			return rest
		},
		"Take of all": func() []byte {
			_, rest, _ := varint.Take(room[:1])
			return rest
		},
		"Takes of none": func() []byte {
			_, rest, _ := varint.Takes(short, 0)
			return rest
		},
		"Takes": func() []byte {
			_, rest, _ := varint.Takes(short, 2)
			return rest
		},
	} {
		one, other := answer(), answer()
		kept := string(other)
		fill(one)
		if string(room) != want || string(other) != kept {
			t.Errorf("R2: %s: shares memory: % x, % x", name, room, other)
		}
	}
}
