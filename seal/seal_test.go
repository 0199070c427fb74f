package seal_test

import (
	"bytes"
	"encoding/hex"
	"math"
	"math/big"
	"slices"
	"strings"
	"testing"

	"argosy/api"
	"argosy/seal"
)

const all = math.MaxUint64

var (
	keys = []uint64{0, 1, 7, 1 << 60, 0x0123456789abcdef, 1 << 63, all - 1, all}
	nums = []int{math.MinInt, -1 << 32, -256, -1, 0, 1, 77, 255, 256, 1 << 32, api.Most, api.Most + 1, math.MaxInt}
)

// filler is n bytes, hardly two alike side by side, the same each time.
func filler(n int) []byte {
	b := make([]byte, n)
	for k := range b {
		b[k] = byte(k*167 + k>>8 + 13)
	}
	return b
}

// plainStep is Step as the chapter words it, in numbers of whatever length.
func plainStep(h, c uint64) uint64 {
	turn := new(big.Int).Lsh(big.NewInt(1), 64)
	out, kept := new(big.Int).DivMod(new(big.Int).Lsh(new(big.Int).SetUint64(h), 13), turn, new(big.Int))
	s := kept.Add(kept, out)
	s.Xor(s, new(big.Int).SetUint64(c))
	s.Mul(s, new(big.Int).SetUint64(0xd6e8feb86659fd93))
	return s.Mod(s, turn).Uint64()
}

// plainNum is num as a number without a sign.
func plainNum(num int) uint64 {
	n := big.NewInt(int64(num))
	return n.Mod(n, new(big.Int).Lsh(big.NewInt(1), 64)).Uint64()
}

// plainTag is Tag as the chapter words it.
func plainTag(key uint64, parts ...[]byte) uint64 {
	for _, part := range parts {
		for k := range part {
			key = plainStep(key, uint64(part[k]))
		}
		key = plainStep(key, uint64(256+len(part)))
	}
	return key
}

// plainMask is Mask as the chapter words it.
func plainMask(key uint64, num int, b []byte) []byte {
	var out []byte
	for i := range b {
		s := plainStep(plainStep(key, plainNum(num)), uint64(i))
		out = append(out, b[i]^byte(s/(1<<32)%256))
	}
	return out
}

// plainClose is Close as the chapter words it.
func plainClose(key uint64, num int, head, body []byte) []byte {
	masked := plainMask(key, num, body)
	tag := new(big.Int).SetUint64(plainTag(plainStep(key, plainNum(num)), head, masked))
	return append(masked, tag.FillBytes(make([]byte, 8))...)
}

// isNone tells whether Open answered that there is nothing, and nothing beside it.
func isNone(body []byte, ok bool) bool {
	return body == nil && !ok
}

// TestSize: 4.1, the tag's length, and what a closed body is longer.
func TestSize(t *testing.T) {
	if seal.Size != 8 || len(seal.Close(3, 4, []byte("hd"), nil)) != 8 {
		t.Errorf("4.1: Size: %d", seal.Size)
	}
}

// TestStep: 4.1, the chapter's example, and what was reckoned by hand: a bit that turns round, a c of more than a byte.
func TestStep(t *testing.T) {
	for _, c := range []struct{ h, c, want uint64 }{
		{0, 1, 0xd6e8feb86659fd93},
		{0, 0, 0},
		{0, 255, 0x1215b9adf3a3956d},
		{0, 256, 0xe8feb86659fd9300},
		{0, all, 0x2917014799a6026d},
		{1, 0, 0x1fd70ccb3fb26000},
		{1, 1 << 13, 0},
		{1 << 50, 0, 1 << 63},
		{1 << 51, 0, 0xd6e8feb86659fd93},
		{1 << 51, 1, 0},
		{1 << 63, 0, 0x8feb86659fd93000},
		{all, 0, 0x2917014799a6026d},
		{all, all, 0},
		{0x0123456789abcdef, 0xfedcba9876543210, 0x0685dc85041517dc},
		{7, 0x1ff, 0xd9f5cba30b81c86d},
	} {
		if got := seal.Step(c.h, c.c); got != c.want {
			t.Errorf("4.1: Step(%#x, %#x): %#x, not %#x", c.h, c.c, got, c.want)
		}
	}
}

// TestStepPlain: 4.1, held against the chapter's words, each bit of h and of c.
func TestStepPlain(t *testing.T) {
	h, c := uint64(0x9e3779b97f4a7c15), uint64(0xd1b54a32d192ed03)
	for k := range 64 {
		for _, x := range [][2]uint64{{1 << k, 0}, {0, 1 << k}, {h, c}, {h, 1 << k}, {all >> k, c}, {h, all >> k}} {
			if got, want := seal.Step(x[0], x[1]), plainStep(x[0], x[1]); got != want {
				t.Fatalf("4.1: Step(%#x, %#x): %#x, not %#x", x[0], x[1], got, want)
			}
		}
		h, c = h*6364136223846793005+1, c*6364136223846793005+5
	}
}

// TestTag: 4.1, what was reckoned by hand.
func TestTag(t *testing.T) {
	for _, c := range []struct {
		key   uint64
		parts []string
		want  uint64
	}{
		{0, nil, 0},
		{7, nil, 7},
		{all, nil, all},
		{0, []string{""}, 0xe8feb86659fd9300},
		{7, []string{""}, 0xc7e011f517de3300},
		{7, []string{"", ""}, 0x4ed760835378f7b4},
		{7, []string{"\x00"}, 0x91315458fb70d5e7},
		{7, []string{"\x03\x04", "\x05"}, 0x7527c2225840eab8},
		{7, []string{"\x03", "\x04\x05"}, 0x78c34f363b834559},
		{7, []string{"\x03\x04\x05"}, 0x01d33e212b035095},
		{7, []string{"\x03\x04\x05", ""}, 0x294579987b32e64e},
		{7, []string{"", "\x03\x04\x05"}, 0x6f02658039eb44b1},
		{all, []string{"head", "some body"}, 0xfe8be648cc391fb7},
		{1 << 60, []string{strings.Repeat("\xff", 256)}, 0x3328309dd667fc43},
		{1 << 60, []string{strings.Repeat("a", 300), strings.Repeat("b", 1000)}, 0xa8d558631cf0873e},
	} {
		var parts [][]byte
		for _, p := range c.parts {
			parts = append(parts, []byte(p))
		}
		if got := seal.Tag(c.key, parts...); got != c.want {
			t.Errorf("4.1: Tag(%d, %q...): %#x, not %#x", c.key, c.parts, got, c.want)
		}
	}
	a, b := []byte("\x03\x04"), []byte("\x05")
	if seal.Tag(7, a, b) != seal.Tag(7, [][]byte{a, b}...) {
		t.Error("4.1: Tag of a list that is spread")
	}
}

// TestTagEmpty: 4.1, no parts, empty ones, those that are nil: so many count, not which.
func TestTagEmpty(t *testing.T) {
	for _, key := range keys {
		if seal.Tag(key) != key || seal.Tag(key, nil...) != key || seal.Tag(key, [][]byte{}...) != key {
			t.Errorf("4.1: Tag(%#x) of no parts", key)
		}
		one := plainStep(key, 256)
		two := plainStep(one, 256)
		if seal.Tag(key, nil) != one || seal.Tag(key, []byte{}) != one || one == key {
			t.Errorf("4.1: Tag(%#x) of one empty part", key)
		}
		if seal.Tag(key, nil, nil) != two || seal.Tag(key, []byte{}, nil) != two || seal.Tag(key, nil, []byte{}) != two || two == one {
			t.Errorf("4.1: Tag(%#x) of two empty parts", key)
		}
	}
}

// TestTagCuts: 4.1, the same bytes cut into other parts have another tag: each way to cut them.
func TestTagCuts(t *testing.T) {
	text := []byte("\x00\x00\x01\x01ab\xff")
	seen := map[uint64]int{}
	for cuts := range 1 << (len(text) - 1) {
		var parts [][]byte
		from := 0
		for k := 1; k < len(text); k++ {
			if cuts>>(k-1)&1 == 1 {
				parts = append(parts, text[from:k])
				from = k
			}
		}
		parts = append(parts, text[from:])
		got := seal.Tag(9, parts...)
		if want := plainTag(9, parts...); got != want {
			t.Errorf("4.1: Tag(9, %q...): %#x, not %#x", parts, got, want)
		}
		if other, ok := seen[got]; ok {
			t.Errorf("4.1: Tag: cuts %b and %b are one", cuts, other)
		}
		seen[got] = cuts
	}
}

// TestTagLong: 4.1, behind a part the sum of 256 and its length, however long.
func TestTagLong(t *testing.T) {
	for _, n := range []int{1, 127, 128, 255, 256, 257, 300, 511, 512, 600, 767, 768, 1 << 16} {
		part := filler(n)
		for _, parts := range [][][]byte{{part}, {part, nil}, {nil, part}, {part[:n/2], part[n/2:]}} {
			if got, want := seal.Tag(1<<60, parts...), plainTag(1<<60, parts...); got != want {
				t.Errorf("4.1: Tag of %d parts, %d bytes: %#x, not %#x", len(parts), n, got, want)
			}
		}
	}
}

// TestMask: 4.1, what was reckoned by hand: the first bytes of nothing but zeros, and those from 252 to 260.
func TestMask(t *testing.T) {
	for _, c := range []struct {
		key         uint64
		num         int
		first, late string
	}{
		{0, 0, "00b87029e199520ac37b33ec", "843df5ad661ed78f"},
		{9, 5, "a9f138808bd21a616cb4fb43", "145ca3eb0f579fe6"},
		{9, -1, "43fbb46c24dd954e06be772f", "8840f8b1dc954d06"},
		{9, -2, "8cd41c636eb6fd455097df26", "b8ff478ef33a82ca"},
		{all, api.Most, "32eba35c14cc853df6ae661f", "b76f28e0995109c2"},
		{1 << 60, math.MaxInt, "83ca125964acf33b468dd51d", "549ce32be93178c0"},
		{1 << 60, math.MinInt, "d92068b0f73f86ce165da5ec", "ee357dc43f87ce16"},
	} {
		m := seal.Mask(c.key, c.num, make([]byte, 600))
		if len(m) != 600 || hex.EncodeToString(m[:12]) != c.first || hex.EncodeToString(m[252:260]) != c.late {
			t.Errorf("4.1: Mask(%#x, %d): %d bytes, %x", c.key, c.num, len(m), m)
		}
	}
	if len(seal.Mask(9, 5, nil)) != 0 || len(seal.Mask(9, 5, []byte{})) != 0 {
		t.Error("4.1: Mask of nothing")
	}
}

// TestMaskPlain: 4.1, held against the chapter's words; and twice is what it was.
func TestMaskPlain(t *testing.T) {
	for _, key := range keys {
		for _, num := range nums {
			for _, n := range []int{0, 1, 2, 8, 255, 256, 257, 700} {
				b := filler(n)
				m := seal.Mask(key, num, b)
				if !bytes.Equal(m, plainMask(key, num, b)) {
					t.Fatalf("4.1: Mask(%#x, %d) of %d bytes: %x", key, num, n, m)
				}
				if again := seal.Mask(key, num, m); !bytes.Equal(again, b) {
					t.Fatalf("4.1: Mask(%#x, %d) of %d bytes, twice: %x", key, num, n, again)
				}
			}
		}
	}
}

// TestClose: 4.1, what was reckoned by hand: bodies and heads, empty and nil ones among them.
func TestClose(t *testing.T) {
	for _, c := range []struct {
		key        uint64
		num        int
		head, body string
		want       string
	}{
		{0, 0, "", "", "2280efc289c1c8cd"},
		{9, 5, "", "", "d4b16dd6db5545e9"},
		{9, 5, "hd", "", "53b61d2465a3a972"},
		{9, 5, "", "body", "cb9e5cf9882474f272a7a5eb"},
		{9, 5, "hd", "some bytes", "da9e55e5abb0631509c77615143da7bc1bd5"},
		{all, -1, "\x00", "\x00\x00\x00", "00b870618d9c712bf49ff2"},
		{1 << 60, api.Most, "A\xff", "xxxxx", "924a01b9b47bf97bea831b4324"},
	} {
		s := seal.Close(c.key, c.num, []byte(c.head), []byte(c.body))
		if hex.EncodeToString(s) != c.want {
			t.Errorf("4.1: Close(%#x, %d, %q, %q): %x, not %s", c.key, c.num, c.head, c.body, s, c.want)
		}
	}
	want := seal.Close(9, 5, []byte{}, []byte{})
	for k, s := range [][]byte{seal.Close(9, 5, nil, nil), seal.Close(9, 5, nil, []byte{}), seal.Close(9, 5, []byte{}, nil)} {
		if !bytes.Equal(s, want) {
			t.Errorf("4.1: Close of nothing, %d: %x, not %x", k, s, want)
		}
	}
}

// TestThereAndBack: 4.1 and 4.2, closed as the chapter's words say, and opened again.
func TestThereAndBack(t *testing.T) {
	for _, key := range keys {
		for _, num := range nums {
			for _, n := range []int{0, 1, 7, 8, 9, 230, 255, 256, 257, 700} {
				for _, head := range [][]byte{nil, {}, {0}, []byte("hd"), filler(300)} {
					body := filler(n)
					s := seal.Close(key, num, head, body)
					if !bytes.Equal(s, plainClose(key, num, head, body)) {
						t.Fatalf("4.1: Close(%#x, %d, %x) of %d bytes: %x", key, num, head, n, s)
					}
					got, ok := seal.Open(key, num, head, s)
					if !ok || !bytes.Equal(got, body) {
						t.Fatalf("4.2: Open(%#x, %d, %x) of %d bytes: %x, %t", key, num, head, n, got, ok)
					}
				}
			}
		}
	}
}

// TestNilHead: 4.2, closed with a head that is nil, opened with an empty one, and the other way round.
func TestNilHead(t *testing.T) {
	for _, body := range []string{"", "some bytes"} {
		one, ok1 := seal.Open(9, 5, []byte{}, seal.Close(9, 5, nil, []byte(body)))
		two, ok2 := seal.Open(9, 5, nil, seal.Close(9, 5, []byte{}, []byte(body)))
		if !ok1 || !ok2 || string(one) != body || string(two) != body {
			t.Errorf("4.2: a head that is nil: %q, %t, %q, %t", one, ok1, two, ok2)
		}
	}
}

// TestOpenShort: 4.1, fewer bytes than a tag, those of a true one among them; what is in the spare room is not there.
func TestOpenShort(t *testing.T) {
	if !isNone(seal.Open(9, 5, nil, nil)) || !isNone(seal.Open(9, 5, []byte("hd"), []byte{})) {
		t.Error("4.1: Open of no bytes")
	}
	for _, body := range []string{"", "some bytes"} {
		s := seal.Close(9, 5, []byte("hd"), []byte(body))
		for n := range seal.Size {
			for _, short := range [][]byte{make([]byte, n), filler(n), s[:n], s[len(s)-n:]} {
				if !isNone(seal.Open(9, 5, []byte("hd"), short)) {
					t.Errorf("4.1: Open of %d bytes: % x", n, short)
				}
			}
		}
		for n := seal.Size; n < len(s); n++ {
			if !isNone(seal.Open(9, 5, []byte("hd"), s[:n])) || !isNone(seal.Open(9, 5, []byte("hd"), s[len(s)-n:])) {
				t.Errorf("4.1: Open of %d of %d bytes", n, len(s))
			}
		}
	}
}

// TestOpenTagAlone: 4.1, just a tag's bytes: an empty body, if it is so.
func TestOpenTagAlone(t *testing.T) {
	tag := seal.Close(9, 5, []byte("hd"), nil)
	if len(tag) != seal.Size {
		t.Fatalf("4.1: Close of nothing: %d bytes", len(tag))
	}
	if body, ok := seal.Open(9, 5, []byte("hd"), tag); !ok || len(body) != 0 {
		t.Errorf("4.2: Open of a tag alone: %x, %t", body, ok)
	}
	for _, wrong := range [][]byte{make([]byte, seal.Size), filler(seal.Size), bytes.Repeat([]byte{0xff}, seal.Size)} {
		if !isNone(seal.Open(9, 5, []byte("hd"), wrong)) {
			t.Errorf("4.1: Open of another tag: % x", wrong)
		}
	}
	slices.Reverse(tag)
	if !isNone(seal.Open(9, 5, []byte("hd"), tag)) {
		t.Error("4.1: Open of a tag, the lowest byte first")
	}
}

// TestOpenTurned: 4.2, one byte of head or sealed that is another one: every place, every other byte.
func TestOpenTurned(t *testing.T) {
	for _, num := range []int{-1, 0, 77, api.Most} {
		for _, c := range []struct{ head, body int }{{0, 0}, {0, 1}, {1, 0}, {2, 9}, {5, 40}, {300, 3}, {2, 270}} {
			head, body := filler(c.head), filler(c.body)
			s := seal.Close(1<<60, num, head, body)
			for _, b := range [][]byte{head, s} {
				for k := range b {
					for by := 1; by < 256; by++ {
						b[k] ^= byte(by)
						if !isNone(seal.Open(1<<60, num, head, s)) {
							t.Fatalf("4.2: head of %d, body of %d: byte %d of %d, turned by %#x, opens", c.head, c.body, k, len(b), by)
						}
						b[k] ^= byte(by)
					}
				}
			}
			if got, ok := seal.Open(1<<60, num, head, s); !ok || !bytes.Equal(got, body) {
				t.Fatalf("4.2: turned back: %x, %t", got, ok)
			}
		}
	}
}

// TestOpenOthers: 4.2, another number, another key: each bit of them turned, and those beside them.
func TestOpenOthers(t *testing.T) {
	for _, n := range []int{0, 1, 300} {
		for _, key := range keys {
			for _, num := range nums {
				s := seal.Close(key, num, []byte("hd"), filler(n))
				for k := range 64 {
					bit := uint64(1) << k
					for _, other := range []uint64{bit, all << k} {
						if !isNone(seal.Open(key, num^int(other), []byte("hd"), s)) || !isNone(seal.Open(key, num+int(other), []byte("hd"), s)) {
							t.Fatalf("4.2: num %d, bit %d: another number opens", num, k)
						}
						if !isNone(seal.Open(key^other, num, []byte("hd"), s)) || !isNone(seal.Open(key+other, num, []byte("hd"), s)) {
							t.Fatalf("4.2: key %#x, bit %d: another key opens", key, k)
						}
					}
				}
			}
		}
	}
}

// TestOpenMoved: 4.1, bytes that went from head to body or back, or came in: the tag is not that of these parts.
func TestOpenMoved(t *testing.T) {
	head, body := []byte("head"), []byte("some bytes")
	s := seal.Close(9, 5, head, body)
	for name, c := range map[string]struct{ head, sealed []byte }{
		"no head":            {nil, s},
		"a shorter head":     {head[:3], s},
		"a longer head":      {append(slices.Clone(head), 0), s},
		"a byte to the head": {append(slices.Clone(head), s[0]), s[1:]},
		"a byte to the body": {head[:3], append([]byte{head[3]}, s...)},
		"a byte ahead":       {head, append([]byte{0}, s...)},
		"a byte behind":      {head, append(slices.Clone(s), 0)},
		"a byte between":     {head, slices.Insert(slices.Clone(s), len(body), 0)},
		"the plain body":     {head, append(slices.Clone(body), s[len(body):]...)},
	} {
		if !isNone(seal.Open(9, 5, c.head, c.sealed)) {
			t.Errorf("4.1: Open with %s", name)
		}
	}
}

// given is a list with spare room, and what the whole of it is.
func given(text string) (list, whole []byte) {
	whole = []byte(text + "spare room")
	return whole[:len(text)], whole
}

// TestArgumentsStand: R2, what is handed in is not changed, its spare room and a list that is spread included.
func TestArgumentsStand(t *testing.T) {
	head, wholeHead := given("hd")
	body, wholeBody := given("some bytes")
	sealed, wholeSealed := given(string(seal.Close(9, 5, head, body)))
	wrong, wholeWrong := given(string(filler(20)))
	kept := slices.Clone(wholeSealed)
	parts := [][]byte{head, nil, body, sealed}
	seal.Tag(9, parts[:3]...)
	seal.Mask(9, 5, body)
	seal.Close(9, 5, head, body)
	if _, ok := seal.Open(9, 5, head, sealed); !ok {
		t.Error("4.2: Open of a list with spare room")
	}
	seal.Open(9, 5, head, wrong)
	if string(wholeHead) != "hdspare room" || string(wholeBody) != "some bytesspare room" || !bytes.Equal(wholeSealed, kept) || string(wholeWrong) != string(filler(20))+"spare room" {
		t.Errorf("R2: handed in and changed: %q, %q, %x, %x", wholeHead, wholeBody, wholeSealed, wholeWrong)
	}
	if &parts[0][0] != &head[0] || parts[1] != nil || &parts[2][0] != &body[0] || &parts[3][0] != &sealed[0] {
		t.Error("R2: a list that is spread is changed")
	}
}

// TestAnswersAreNew: R2, an answer shares nothing with what was handed in, nor with another answer, spare room too.
func TestAnswersAreNew(t *testing.T) {
	for _, text := range []string{"", "x", "some bytes"} {
		head, wholeHead := given("hd")
		body, wholeBody := given(text)
		sealed, wholeSealed := given(string(seal.Close(9, 5, head, body)))
		inputs := [][]byte{wholeHead, wholeBody, wholeSealed}
		kept := slices.Concat(inputs...)
		for name, answer := range map[string]func() []byte{
			"Mask":  func() []byte { return seal.Mask(9, 5, body) },
			"Close": func() []byte { return seal.Close(9, 5, head, body) },
			"Open": func() []byte {
				b, _ := seal.Open(9, 5, head, sealed)
				return b
			},
		} {
			one, other := answer(), answer()
			was := string(other[:cap(other)])
			one = one[:cap(one)]
			for k := range one {
				one[k] ^= 0xee
			}
			if string(other[:cap(other)]) != was || !bytes.Equal(slices.Concat(inputs...), kept) {
				t.Errorf("R2: %s of %q: shares memory", name, text)
			}
		}
	}
}
