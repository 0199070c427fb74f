package pnum_test

import (
	"math"
	"math/big"
	"testing"

	"argosy/api"
	"argosy/pnum"
)

// values: whole numbers, each end of a count of bytes and of what may be, and what is beside it.
func values() []int {
	l := []int{math.MinInt, math.MinInt + 1, -api.Most - 1, -api.Most, math.MaxInt - 1, math.MaxInt}
	for _, n := range []int{-1 << 33, -1 << 31, -1 << 15, -300, 0, 1 << 7, 1 << 8, 1 << 15, 1 << 16, 1 << 23, 1 << 24, 1 << 31, 1 << 32, 1 << 40, api.Most} {
		l = append(l, n-1, n, n+1)
	}
	return l
}

// spread gives n numbers 0 to api.Most of every length, the same each time.
func spread(n int) []int {
	var l []int
	x := uint64(1)
	for k := range n {
		x = x*6364136223846793005 + 1442695040888963407
		l = append(l, int(x>>2>>(k%62)))
	}
	return l
}

// plainBytes is Bytes as the chapter words it, in numbers of whatever length.
func plainBytes(n, acked int) int {
	twice := new(big.Int).Sub(big.NewInt(int64(n)), big.NewInt(int64(acked)))
	twice.Lsh(twice, 1)
	for k := 1; k <= 3; k++ {
		if twice.Cmp(new(big.Int).Lsh(big.NewInt(1), uint(8*k))) <= 0 {
			return k
		}
	}
	return 4
}

// plainCut is Cut as the chapter words it, for k of 1 to 4.
func plainCut(n, k int) int {
	turn := new(big.Int).Lsh(big.NewInt(1), uint(8*k))
	return int(new(big.Int).Mod(big.NewInt(int64(n)), turn).Int64())
}

// plainBack goes outward from next, the greater of two as near first; for small k alone.
func plainBack(cut, k, next int) int {
	next = min(max(next, 0), api.Most)
	want := plainCut(cut, k)
	for far := 0; ; far++ {
		for _, n := range []int{next + far, next - far} {
			if n >= 0 && n <= api.Most && n%(1<<(8*k)) == want {
				return n
			}
		}
	}
}

// counts: a k as it is handed in, and as it is meant.
var counts = []struct{ k, meant int }{
	{math.MinInt, 1}, {-8, 1}, {-1, 1}, {0, 1}, {1, 1}, {2, 2}, {3, 3}, {4, 4}, {5, 4}, {8, 4}, {64, 4}, {math.MaxInt, 4},
}

// TestExample: 2.1, the chapter's example.
func TestExample(t *testing.T) {
	if n := pnum.Back(0x9b32, 2, 0xa82f30eb); n != 0xa82f9b32 {
		t.Errorf("2.1: Back(0x9b32, 2, 0xa82f30eb): %#x", n)
	}
}

// TestBytesEnds: 2.1, the greatest distance of each count of bytes, and the one behind it.
func TestBytesEnds(t *testing.T) {
	for _, c := range []struct{ far, want int }{
		{1, 1}, {127, 1}, {128, 1},
		{129, 2}, {256, 2}, {32767, 2}, {32768, 2},
		{32769, 3}, {1 << 16, 3}, {1<<23 - 1, 3}, {1 << 23, 3},
		{1<<23 + 1, 4}, {1 << 24, 4}, {1 << 31, 4}, {1<<31 + 1, 4}, {1 << 40, 4},
	} {
		for _, acked := range []int{-1, 0, 1, 1000, 1 << 33, api.Most - 1<<41} {
			if k := pnum.Bytes(acked+c.far, acked); k != c.want {
				t.Errorf("2.1: Bytes(%d, %d): %d, not %d", acked+c.far, acked, k, c.want)
			}
		}
	}
}

// TestBytesNoneAcked: 2.1, an acked of -1 counts as a number like others.
func TestBytesNoneAcked(t *testing.T) {
	for _, c := range []struct{ n, want int }{{0, 1}, {127, 1}, {128, 2}, {32767, 2}, {32768, 3}, {1<<23 - 1, 3}, {1 << 23, 4}, {1<<31 - 1, 4}, {1 << 31, 4}, {api.Most, 4}} {
		if k := pnum.Bytes(c.n, -1); k != c.want {
			t.Errorf("2.1: Bytes(%d, -1): %d, not %d", c.n, k, c.want)
		}
	}
}

// TestBytesWrong: 2.1 and R1, an n that is not above acked, and numbers that may not be.
func TestBytesWrong(t *testing.T) {
	for _, c := range []struct{ n, acked, want int }{
		{5, 5, 1}, {5, 6, 1}, {0, api.Most, 1}, {-1, -1, 1}, {-2, -1, 1},
		{math.MinInt, math.MaxInt, 1}, {math.MinInt, 0, 1}, {math.MinInt, -1, 1}, {-1, math.MaxInt, 1},
		{math.MaxInt, math.MinInt, 4}, {math.MaxInt, -1, 4}, {0, math.MinInt, 4}, {-1, math.MinInt, 4}, {math.MaxInt, 0, 4},
		{math.MinInt + 128, math.MinInt, 1}, {math.MinInt + 129, math.MinInt, 2}, {math.MaxInt, math.MaxInt - 1, 1},
		{100, -28, 1}, {100, -29, 2}, {-500, -700, 2}, {api.Most + 200, api.Most, 2},
	} {
		if k := pnum.Bytes(c.n, c.acked); k != c.want {
			t.Errorf("2.1: Bytes(%d, %d): %d, not %d", c.n, c.acked, k, c.want)
		}
	}
}

// TestBytesPlain: 2.1, held against the chapter's words.
func TestBytesPlain(t *testing.T) {
	all := append(values(), spread(200)...)
	for _, n := range all {
		for _, acked := range all {
			if k, want := pnum.Bytes(n, acked), plainBytes(n, acked); k != want {
				t.Fatalf("2.1: Bytes(%d, %d): %d, not %d", n, acked, k, want)
			}
		}
	}
}

// TestCut: 2.1, each count of bytes and its ends.
func TestCut(t *testing.T) {
	for _, c := range []struct{ n, k, want int }{
		{0, 1, 0}, {255, 1, 255}, {256, 1, 0}, {300, 1, 44},
		{0xffff, 2, 0xffff}, {0x10000, 2, 0}, {0xa82f9b32, 2, 0x9b32},
		{0xffffff, 3, 0xffffff}, {0x1000000, 3, 0}, {0x123456789a, 3, 0x56789a},
		{0xffffffff, 4, 0xffffffff}, {0x100000000, 4, 0}, {0x123456789a, 4, 0x3456789a},
		{api.Most, 1, 0xff}, {api.Most, 4, 0xffffffff}, {api.Most + 1, 4, 0}, {math.MaxInt, 3, 0xffffff},
		{-1, 1, 255}, {-256, 1, 0}, {-300, 2, 65236}, {-1, 4, 0xffffffff}, {math.MinInt, 4, 0}, {math.MinInt + 5, 2, 5},
	} {
		if got := pnum.Cut(c.n, c.k); got != c.want {
			t.Errorf("2.1: Cut(%d, %d): %#x, not %#x", c.n, c.k, got, c.want)
		}
	}
}

// TestCutPlain: 2.1, held against the chapter's words, with counts below 1 and above 4.
func TestCutPlain(t *testing.T) {
	for _, n := range append(values(), spread(500)...) {
		for _, c := range counts {
			if got, want := pnum.Cut(n, c.k), plainCut(n, c.meant); got != want {
				t.Fatalf("2.1: Cut(%d, %d): %#x, not %#x", n, c.k, got, want)
			}
		}
	}
}

// TestBackNearest: 2.1, the nearest, on either side of next; of two as near the greater.
func TestBackNearest(t *testing.T) {
	for _, c := range []struct{ cut, k, next, want int }{
		{44, 1, 300, 300}, {0, 1, 300, 256}, {43, 1, 300, 299}, {45, 1, 300, 301},
		{127, 1, 256, 383}, {128, 1, 256, 384}, {129, 1, 256, 129},
		{0, 1, 384, 512}, {0, 1, 383, 256}, {0, 1, 385, 512},
		{0x8000, 2, 0x10000, 0x18000}, {0x7fff, 2, 0x10000, 0x17fff}, {0x8001, 2, 0x10000, 0x8001},
		{0x800000, 3, 0x1000000, 0x1800000}, {0x7fffff, 3, 0x1000000, 0x17fffff}, {0x800001, 3, 0x1000000, 0x800001},
		{0x80000000, 4, 0x100000000, 0x180000000}, {0x7fffffff, 4, 0x100000000, 0x17fffffff}, {0x80000001, 4, 0x100000000, 0x80000001},
		{0x123456, 3, 0x99ffffff, 0x9a123456}, {0xf23456, 3, 0x9a000001, 0x99f23456},
		{0xfedcba98, 4, 0x700000001, 0x6fedcba98}, {1, 4, 0x6ffffffff, 0x700000001},
	} {
		if n := pnum.Back(c.cut, c.k, c.next); n != c.want {
			t.Errorf("2.1: Back(%#x, %d, %#x): %#x, not %#x", c.cut, c.k, c.next, n, c.want)
		}
	}
}

// TestBackLowEnd: 2.1, what would be nearest below 0 is none.
func TestBackLowEnd(t *testing.T) {
	for _, c := range counts {
		turn := 1 << (8 * c.meant)
		for _, x := range []struct{ cut, next, want int }{
			{0, 0, 0}, {turn - 1, 0, turn - 1}, {turn / 2, 0, turn / 2}, {turn/2 + 1, 0, turn/2 + 1},
			{turn - 1, turn/2 - 2, turn - 1}, {turn - 1, turn - 2, turn - 1},
			{0, turn/2 - 1, 0}, {0, turn / 2, turn}, {0, turn/2 + 1, turn},
			{0, -1, 0}, {turn - 1, -1, turn - 1}, {turn - 1, -turn, turn - 1}, {5, -turn - 7, 5}, {turn - 1, math.MinInt, turn - 1},
		} {
			if n := pnum.Back(x.cut, c.k, x.next); n != x.want {
				t.Errorf("2.1: Back(%#x, %d, %d): %d, not %d", x.cut, c.k, x.next, n, x.want)
			}
		}
	}
}

// TestBackHighEnd: 2.1, what would be nearest above api.Most is none.
func TestBackHighEnd(t *testing.T) {
	for _, c := range counts {
		turn := 1 << (8 * c.meant)
		last := api.Most - (turn - 1)
		for _, x := range []struct{ cut, next, want int }{
			{turn - 1, api.Most, api.Most}, {0, api.Most, last}, {1, api.Most, last + 1}, {turn/2 - 1, api.Most, last + turn/2 - 1},
			{turn - 1, last, last - 1}, {turn - 1, last + turn/2 - 2, last - 1}, {turn - 1, last + turn/2 - 1, api.Most}, {0, last + turn/2, last},
			{0, api.Most + 1, last}, {0, api.Most + turn, last}, {0, math.MaxInt, last}, {turn - 1, math.MaxInt, api.Most}, {7, math.MaxInt, last + 7},
		} {
			if n := pnum.Back(x.cut, c.k, x.next); n != x.want {
				t.Errorf("2.1: Back(%#x, %d, %d): %d, not %d", x.cut, c.k, x.next, n, x.want)
			}
		}
	}
}

// TestBackTallCut: 2.1, a cut that is more than its bytes hold, or below 0, counts modulo 2^(8k).
func TestBackTallCut(t *testing.T) {
	for _, c := range counts {
		for _, next := range []int{0, 77, 1 << 20, 1<<40 + 5, api.Most} {
			for _, cut := range values() {
				want := pnum.Back(plainCut(cut, c.meant), c.meant, next)
				if n := pnum.Back(cut, c.k, next); n != want {
					t.Fatalf("2.1: Back(%d, %d, %d): %d, not %d", cut, c.k, next, n, want)
				}
			}
		}
	}
	for _, c := range []struct{ cut, k, next, want int }{{1000, 1, 0, 232}, {-1, 1, 1000, 1023}, {0xa82f9b32, 2, 0xa82f30eb, 0xa82f9b32}, {math.MinInt, 4, 9, 0}, {math.MaxInt, 4, 9, 1<<32 - 1}} {
		if n := pnum.Back(c.cut, c.k, c.next); n != c.want {
			t.Errorf("2.1: Back(%d, %d, %d): %d, not %d", c.cut, c.k, c.next, n, c.want)
		}
	}
}

// TestBackPlain: 2.1, held against the chapter's words: every cut of a byte, and some of two.
func TestBackPlain(t *testing.T) {
	nexts := append(values(), spread(60)...)
	for _, next := range nexts {
		for cut := range 256 {
			if n, want := pnum.Back(cut, 1, next), plainBack(cut, 1, next); n != want {
				t.Fatalf("2.1: Back(%d, 1, %d): %d, not %d", cut, next, n, want)
			}
		}
		for cut := 0; cut < 1<<16; cut += 4099 {
			if n, want := pnum.Back(cut, 2, next), plainBack(cut, 2, next); n != want {
				t.Fatalf("2.1: Back(%d, 2, %d): %d, not %d", cut, next, n, want)
			}
		}
	}
}

// TestBackIsNearest: 2.1, in each count of bytes: it is cut so, may be, and neither neighbour is nearer.
func TestBackIsNearest(t *testing.T) {
	all := spread(300)
	for k := 1; k <= 4; k++ {
		turn := 1 << (8 * k)
		for i, next := range all {
			cut := plainCut(all[len(all)-1-i], k)
			n := pnum.Back(cut, k, next)
			if n < 0 || n > api.Most || n%turn != cut {
				t.Fatalf("2.1: Back(%#x, %d, %#x): %#x is none", cut, k, next, n)
			}
			far := max(n-next, next-n)
			if n-turn >= 0 && next-(n-turn) < far || n+turn <= api.Most && n+turn-next <= far {
				t.Fatalf("2.1: Back(%#x, %d, %#x): %#x is not the nearest", cut, k, next, n)
			}
		}
	}
}

// nexts: what the other end may await, ahead of n: both ends, and some between.
func nexts(n, acked int) []int {
	far := n - acked
	return []int{acked + 1, acked + 1 + (far-1)/3, acked + 1 + (far-1)/2, n}
}

// TestThereAndBack: 2.2, a number that is cut to the Bytes it needs comes back.
func TestThereAndBack(t *testing.T) {
	fars := []int{1, 2, 3, 100, 127, 128, 129, 255, 256, 257, 32767, 32768, 32769, 65536, 1<<23 - 1, 1 << 23, 1<<23 + 1, 1 << 24, 1<<31 - 1, 1 << 31}
	for _, x := range spread(200) {
		fars = append(fars, 1+x%(1<<31))
	}
	ackeds := []int{-1, 0, 1, 127, 128, 255, 256, 40000, 1<<16 - 1, 1 << 31, 1<<32 - 1, 1 << 33, api.Most - 1<<31, api.Most - 1<<23, api.Most - 128, api.Most - 1}
	for _, acked := range append(ackeds, spread(50)...) {
		for _, far := range fars {
			if far > api.Most-acked {
				continue
			}
			n := acked + far
			k := pnum.Bytes(n, acked)
			for _, next := range nexts(n, acked) {
				if got := pnum.Back(pnum.Cut(n, k), k, next); got != n {
					t.Fatalf("2.2: %d in %d bytes, acked %d, next %d: comes back as %d", n, k, acked, next, got)
				}
			}
		}
	}
}

// TestEveryNext: 2.2, near acked: each number with each next.
func TestEveryNext(t *testing.T) {
	for _, acked := range []int{-1, 0, 200, api.Most - 300} {
		for n := acked + 1; n <= acked+300; n++ {
			k := pnum.Bytes(n, acked)
			for next := acked + 1; next <= n; next++ {
				if got := pnum.Back(pnum.Cut(n, k), k, next); got != n {
					t.Fatalf("2.2: %d in %d bytes, acked %d, next %d: comes back as %d", n, k, acked, next, got)
				}
			}
		}
	}
}
