package cong_test

import (
	"math"
	"slices"
	"testing"

	"argosy/api"
	"argosy/cong"
)

// window is a Window of these fields, in the order in which the chapter names them.
func window(size, slow, part, till int) cong.Window {
	return cong.Window{Size: size, Slow: slow, Part: part, Till: till}
}

// want holds a Window's fields and what Fits tells of flights about its Size; twice, as asking changes nothing.
func want(t *testing.T, w *cong.Window, fields cong.Window) {
	t.Helper()
	for range 2 {
		if *w != fields {
			t.Fatalf("10.1: %+v, not %+v", *w, fields)
		}
		wantFits(t, w)
	}
	if *w != fields {
		t.Fatalf("10.1: asked, it is %+v, not %+v", *w, fields)
	}
}

// wantFits asks of flights about Size, and of those at both ends.
func wantFits(t *testing.T, w *cong.Window) {
	t.Helper()
	for _, flight := range []int{math.MinInt, math.MinInt + 1, -5, -1, 0, 1, 2, 3, 31, 32, 33, api.Most, math.MaxInt - 1, math.MaxInt, w.Size - 2, w.Size - 1, w.Size, w.Size + 1, w.Size + 2} {
		if got := w.Fits(flight); got != (flight < w.Size) {
			t.Fatalf("10.1: of %+v: Fits(%d) is %v", *w, flight, got)
		}
	}
}

// wantGood holds what Good leaves of a Window: of n at once, and of n in two parts.
func wantGood(t *testing.T, ahead cong.Window, n int, fields cong.Window) {
	t.Helper()
	w := ahead
	w.Good(n)
	if w != fields {
		t.Fatalf("10.1: %+v, Good(%d): %+v, not %+v", ahead, n, w, fields)
	}
	want(t, &w, fields)
	for _, first := range []int{1, 2, 31, 32, 33, 1000, n / 3, n / 2, n - 33, n - 32, n - 31, n - 2, n - 1} {
		if first < 1 || first >= n {
			continue
		}
		w = ahead
		w.Good(first)
		w.Good(n - first)
		if w != fields {
			t.Fatalf("10.1: %+v, Good(%d), Good(%d): %+v, not %+v", ahead, first, n-first, w, fields)
		}
	}
}

// wantBad holds what Bad leaves of a Window.
func wantBad(t *testing.T, ahead cong.Window, num, next int, fields cong.Window) {
	t.Helper()
	w := ahead
	w.Bad(num, next)
	if w != fields {
		t.Fatalf("10.1: %+v, Bad(%d, %d): %+v, not %+v", ahead, num, next, w, fields)
	}
	want(t, &w, fields)
}

// plain is a Window as the chapter words it: packet by packet.
type plain struct{ size, slow, part, till int }

func plainOf(w cong.Window) *plain {
	return &plain{w.Size, w.Slow, w.Part, w.Till}
}

func (p *plain) window() cong.Window {
	return window(p.size, p.slow, p.part, p.till)
}

func (p *plain) one() {
	if p.size < p.slow {
		p.size++
	} else {
		p.part++
		if p.part == p.size {
			p.size++
			p.part = 0
		}
	}
	if p.size > 32 {
		p.size = 32
	}
}

func (p *plain) good(n int) {
	for ; n >= 1; n-- {
		p.one()
	}
}

func (p *plain) bad(num, next int) {
	if num < p.till {
		return
	}
	p.slow = 2
	if p.size >= 6 {
		p.slow = (p.size - p.size%2) / 2
	}
	p.size = p.slow
	p.part = 0
	p.till = next
}

// dice is a row of numbers that look thrown, the same at each run.
type dice uint64

func (d *dice) below(n int) int {
	*d = *d*6364136223846793005 + 1442695040888963407
	return int(uint64(*d)>>33) % n
}

func (d *dice) from(l []int) int {
	return l[d.below(len(l))]
}

// TestExample: 10.1, the chapter's example, and the fields behind it.
func TestExample(t *testing.T) {
	w := cong.New()
	w.Bad(0, 5)
	if w.Size != 2 {
		t.Fatalf("10.1: New, Bad(0, 5): Size %d, not 2", w.Size)
	}
	want(t, &w, window(2, 2, 0, 5))
}

// TestNew: 10.1, New's four fields, each time the same, and none knows of another.
func TestNew(t *testing.T) {
	for range 3 {
		w := cong.New()
		want(t, &w, window(4, 32, 0, 0))
		if w.Slow != api.MaxWindow {
			t.Fatalf("10.1: New: Slow %d, not %d", w.Slow, api.MaxWindow)
		}
		w.Good(30)
		w.Bad(7, 9)
	}
}

// TestBelowSlow: 10.1, below Slow each packet makes Size one more; Part stays, whatever it is.
func TestBelowSlow(t *testing.T) {
	w := cong.New()
	for size := 5; size <= 32; size++ {
		w.Good(1)
		want(t, &w, window(size, 32, 0, 0))
	}
	for n := 1; n <= 28; n++ {
		wantGood(t, cong.New(), n, window(4+n, 32, 0, 0))
	}
	for slow := 3; slow <= 32; slow++ {
		for size := 2; size < slow; size++ {
			for n := 1; n <= slow-size; n++ {
				wantGood(t, window(size, slow, 0, 9), n, window(size+n, slow, 0, 9))
			}
		}
	}
	wantGood(t, window(4, 20, 4, 6), 1, window(5, 20, 4, 6))
	wantGood(t, window(4, 20, 5, 6), 1, window(5, 20, 5, 6))
	wantGood(t, window(4, 20, 3, 6), 16, window(20, 20, 3, 6))
}

// TestAtSlow: 10.1, from Slow on each packet makes Part one more, and when it is Size, Size is one more and Part 0.
func TestAtSlow(t *testing.T) {
	for size := 2; size < 32; size++ {
		for _, slow := range []int{size, size - 1, 2} {
			w := window(size, slow, 0, 7)
			for part := 1; part < size; part++ {
				w.Good(1)
				want(t, &w, window(size, slow, part, 7))
				wantGood(t, window(size, slow, 0, 7), part, window(size, slow, part, 7))
			}
			w.Good(1)
			want(t, &w, window(size+1, slow, 0, 7))
			wantGood(t, window(size, slow, 0, 7), size, window(size+1, slow, 0, 7))
			w.Good(1)
			want(t, &w, window(size+1, slow, 1, 7))
			wantGood(t, window(size, slow, 0, 7), size+1, window(size+1, slow, 1, 7))
		}
	}
}

// TestRow: 10.1, from Slow on through several Sizes in one call: each takes as many as it is.
func TestRow(t *testing.T) {
	for _, c := range []struct {
		n      int
		fields cong.Window
	}{
		{1, window(2, 2, 1, 5)},
		{2, window(3, 2, 0, 5)},
		{3, window(3, 2, 1, 5)},
		{4, window(3, 2, 2, 5)},
		{5, window(4, 2, 0, 5)},
		{8, window(4, 2, 3, 5)},
		{9, window(5, 2, 0, 5)},
		{13, window(5, 2, 4, 5)},
		{14, window(6, 2, 0, 5)},
		{20, window(7, 2, 0, 5)},
		{27, window(8, 2, 0, 5)},
		{100, window(14, 2, 10, 5)},
		{463, window(30, 2, 29, 5)},
		{464, window(31, 2, 0, 5)},
		{494, window(31, 2, 30, 5)},
		{495, window(32, 2, 0, 5)},
		{496, window(32, 2, 1, 5)},
		{526, window(32, 2, 31, 5)},
		{527, window(32, 2, 0, 5)},
	} {
		wantGood(t, window(2, 2, 0, 5), c.n, c.fields)
	}
}

// TestAcross: 10.1, from below Slow across it in one call.
func TestAcross(t *testing.T) {
	for _, c := range []struct {
		ahead  cong.Window
		n      int
		fields cong.Window
	}{
		{window(4, 6, 0, 0), 2, window(6, 6, 0, 0)},
		{window(4, 6, 0, 0), 3, window(6, 6, 1, 0)},
		{window(4, 6, 0, 0), 7, window(6, 6, 5, 0)},
		{window(4, 6, 0, 0), 8, window(7, 6, 0, 0)},
		{window(4, 6, 0, 0), 9, window(7, 6, 1, 0)},
		{window(4, 6, 0, 0), 15, window(8, 6, 0, 0)},
		{window(4, 6, 0, 0), 16, window(8, 6, 1, 0)},
		{window(4, 5, 0, 3), 1, window(5, 5, 0, 3)},
		{window(4, 5, 0, 3), 2, window(5, 5, 1, 3)},
		{window(4, 5, 0, 3), 6, window(6, 5, 0, 3)},
		{window(4, 6, 2, 0), 3, window(6, 6, 3, 0)},
		{window(4, 6, 2, 0), 6, window(7, 6, 0, 0)},
		{window(30, 31, 0, 1), 2, window(31, 31, 1, 1)},
		{window(30, 31, 0, 1), 32, window(32, 31, 0, 1)},
		{window(30, 31, 0, 1), 33, window(32, 31, 1, 1)},
		{cong.New(), 29, window(32, 32, 1, 0)},
		{cong.New(), 59, window(32, 32, 31, 0)},
		{cong.New(), 60, window(32, 32, 0, 0)},
		{cong.New(), 61, window(32, 32, 1, 0)},
	} {
		wantGood(t, c.ahead, c.n, c.fields)
	}
}

// TestNothing: 10.1, Good of 0 or below is nothing, of windows that a user set too.
func TestNothing(t *testing.T) {
	for _, n := range []int{0, -1, -2, -3, -32, -33, -1 << 32, -api.Most, math.MinInt + 1, math.MinInt} {
		for _, w := range []cong.Window{cong.New(), window(2, 2, 1, 5), window(31, 31, 30, 0), window(31, 32, 0, 0), window(32, 32, 0, 1), window(32, 32, 31, 1), window(32, 40, 0, 1), {}, window(33, 2, 0, 0), window(33, 60, 0, 0), window(-3, 5, 7, -9), window(math.MaxInt, math.MinInt, math.MaxInt, math.MinInt)} {
			wantGood(t, w, n, w)
		}
	}
}

// TestMost: 10.1, Size is at most MaxWindow: below Slow, from Slow on, and with a Slow beyond it.
func TestMost(t *testing.T) {
	for _, c := range []struct {
		ahead  cong.Window
		n      int
		fields cong.Window
	}{
		{window(31, 32, 0, 0), 1, window(32, 32, 0, 0)},
		{window(31, 32, 0, 0), 2, window(32, 32, 1, 0)},
		{window(31, 31, 0, 0), 30, window(31, 31, 30, 0)},
		{window(31, 31, 0, 0), 31, window(32, 31, 0, 0)},
		{window(31, 31, 30, 0), 1, window(32, 31, 0, 0)},
		{window(31, 31, 30, 0), 2, window(32, 31, 1, 0)},
		{window(31, 2, 30, 0), 33, window(32, 2, 0, 0)},
		{window(32, 32, 0, 4), 1, window(32, 32, 1, 4)},
		{window(32, 32, 0, 4), 31, window(32, 32, 31, 4)},
		{window(32, 32, 0, 4), 32, window(32, 32, 0, 4)},
		{window(32, 32, 0, 4), 33, window(32, 32, 1, 4)},
		{window(32, 32, 30, 4), 1, window(32, 32, 31, 4)},
		{window(32, 32, 30, 4), 2, window(32, 32, 0, 4)},
		{window(32, 32, 31, 4), 1, window(32, 32, 0, 4)},
		{window(32, 32, 31, 4), 2, window(32, 32, 1, 4)},
		{window(32, 32, 31, 4), 64, window(32, 32, 31, 4)},
		{window(32, 2, 31, 4), 1, window(32, 2, 0, 4)},
		{window(31, 33, 0, 0), 1, window(32, 33, 0, 0)},
		{window(31, 33, 0, 0), 2, window(32, 33, 0, 0)},
		{window(31, 33, 6, 0), 100, window(32, 33, 6, 0)},
		{window(32, 33, 0, 0), 1, window(32, 33, 0, 0)},
		{window(32, 33, 31, 0), 5, window(32, 33, 31, 0)},
		{window(4, 1000, 0, 0), 28, window(32, 1000, 0, 0)},
		{window(4, 1000, 0, 0), 29, window(32, 1000, 0, 0)},
		{window(4, math.MaxInt, 3, 0), 50, window(32, math.MaxInt, 3, 0)},
	} {
		wantGood(t, c.ahead, c.n, c.fields)
	}
}

// TestPartAtMost: 10.1, a Part of MaxWindow or more: that of a full window starts anew; one that is Size or more ahead is not Size behind.
func TestPartAtMost(t *testing.T) {
	w := window(32, 32, 0, 0)
	for k := range 200 {
		want(t, &w, window(32, 32, k%32, 0))
		w.Good(1)
	}
	wantGood(t, window(32, 32, 32, 0), 1, window(32, 32, 33, 0))
	wantGood(t, window(32, 32, 32, 0), 1000, window(32, 32, 1032, 0))
	wantGood(t, window(32, 32, 33, 0), 31, window(32, 32, 64, 0))
	wantGood(t, window(10, 10, 10, 0), 1, window(10, 10, 11, 0))
	wantGood(t, window(10, 10, 11, 0), 21, window(10, 10, 32, 0))
	wantGood(t, window(10, 10, 31, 0), 2, window(10, 10, 33, 0))
	wantGood(t, window(10, 12, 11, 0), 3, window(13, 12, 0, 0))
	wantGood(t, window(10, 12, 12, 0), 3, window(12, 12, 13, 0))
}

// TestTill: 10.1, Bad of a number below Till is nothing; at it and above it it is a loss.
func TestTill(t *testing.T) {
	for _, till := range []int{0, 1, 5, 100, api.Most, math.MaxInt, -1, -7, math.MinInt} {
		ahead := window(20, 9, 6, till)
		loss := window(10, 10, 0, 77)
		for _, less := range []int{1, 2, 50} {
			if till >= math.MinInt+less {
				wantBad(t, ahead, till-less, 77, ahead)
			}
			if till <= math.MaxInt-less {
				wantBad(t, ahead, till+less, 77, loss)
			}
		}
		wantBad(t, ahead, till, 77, loss)
		if till > math.MinInt {
			wantBad(t, ahead, math.MinInt, 77, ahead)
		}
		wantBad(t, ahead, math.MaxInt, 77, loss)
	}
}

// TestNext: 10.1, Till is next, whatever that is and whatever Till and num are.
func TestNext(t *testing.T) {
	for _, next := range []int{math.MinInt, math.MinInt + 1, -1, 0, 1, 4, 5, 6, api.Most, math.MaxInt - 1, math.MaxInt} {
		wantBad(t, window(12, 32, 0, 5), 5, next, window(6, 6, 0, next))
		wantBad(t, window(12, 32, 0, 5), 8, next, window(6, 6, 0, next))
		wantBad(t, window(12, 32, 0, math.MinInt), math.MinInt, next, window(6, 6, 0, next))
		wantBad(t, window(12, 32, 0, 5), 4, next, window(12, 32, 0, 5))
	}
}

// TestHalf: 10.1, a loss halves Size without its rest, at least MinWindow; Slow and Part ahead of it say nothing.
func TestHalf(t *testing.T) {
	for size, half := range map[int]int{math.MinInt: 2, -100: 2, -5: 2, -1: 2, 0: 2, 1: 2, 2: 2, 3: 2, 4: 2, 5: 2, 6: 3, 7: 3, 8: 4, 9: 4, 10: 5, 11: 5, 15: 7, 16: 8, 17: 8, 30: 15, 31: 15, 32: 16, 33: 16, 64: 32, 65: 32, 66: 33, 1001: 500, math.MaxInt: 1<<62 - 1} {
		for _, slow := range []int{math.MinInt, -1, 0, 1, 2, 3, size, 31, 32, 33, math.MaxInt} {
			for _, part := range []int{math.MinInt, -1, 0, 1, size, 31, 32, math.MaxInt} {
				wantBad(t, window(size, slow, part, 3), 3, 11, window(half, half, 0, 11))
			}
		}
	}
}

// TestLosses: 10.1, a loss, growth behind it, a second one of the same, one behind Till.
func TestLosses(t *testing.T) {
	w := cong.New()
	w.Good(15)
	want(t, &w, window(19, 32, 0, 0))
	w.Bad(12, 19)
	want(t, &w, window(9, 9, 0, 19))
	w.Bad(12, 19)
	want(t, &w, window(9, 9, 0, 19))
	w.Bad(18, 25)
	want(t, &w, window(9, 9, 0, 19))
	w.Good(8)
	want(t, &w, window(9, 9, 8, 19))
	w.Bad(18, 26)
	want(t, &w, window(9, 9, 8, 19))
	w.Good(1)
	want(t, &w, window(10, 9, 0, 19))
	w.Good(3)
	want(t, &w, window(10, 9, 3, 19))
	w.Bad(19, 30)
	want(t, &w, window(5, 5, 0, 30))
	w.Good(7)
	want(t, &w, window(6, 5, 2, 30))
	w.Bad(29, 40)
	want(t, &w, window(6, 5, 2, 30))
	w.Bad(31, 40)
	want(t, &w, window(3, 3, 0, 40))
	w.Bad(40, 41)
	want(t, &w, window(2, 2, 0, 41))
	w.Bad(41, 42)
	want(t, &w, window(2, 2, 0, 42))
	w.Good(2)
	want(t, &w, window(3, 2, 0, 42))
	w.Bad(1000, 5)
	want(t, &w, window(2, 2, 0, 5))
	w.Bad(5, 5)
	want(t, &w, window(2, 2, 0, 5))
}

// TestFits: 10.1, flight just below Size, just Size, above it, and at both ends.
func TestFits(t *testing.T) {
	for _, size := range []int{0, 1, 2, 3, 4, 5, 16, 31, 32, 33, 1000, -1, -2, -40, api.Most, math.MaxInt, math.MinInt} {
		for _, slow := range []int{math.MinInt, 0, size, 32, math.MaxInt} {
			w := window(size, slow, 6, 8)
			want(t, &w, window(size, slow, 6, 8))
			for _, flight := range []int{math.MinInt, -1, 0, 1, 2, 31, 32, math.MaxInt} {
				if got := w.Fits(flight); got != (flight < size) {
					t.Fatalf("10.1: Size %d: Fits(%d) is %v", size, flight, got)
				}
			}
		}
		for part := range 40 {
			w := window(size, 5, part, part)
			wantFits(t, &w)
		}
	}
	w := cong.New()
	if !w.Fits(3) || w.Fits(4) || w.Fits(5) || !w.Fits(0) || !w.Fits(-1) {
		t.Fatalf("10.1: New: Fits is not of 3, and not of 4")
	}
}

// TestFar: 10.1, R1, n far more than a window can still grow by.
func TestFar(t *testing.T) {
	const most = math.MaxInt // 31 more than a multiple of 32
	for _, c := range []struct {
		ahead  cong.Window
		n      int
		fields cong.Window
	}{
		{cong.New(), 28 + 32000000, window(32, 32, 0, 0)},
		{cong.New(), 28 + 32000031, window(32, 32, 31, 0)},
		{cong.New(), most, window(32, 32, 3, 0)},
		{cong.New(), most - 1, window(32, 32, 2, 0)},
		{cong.New(), most - 3, window(32, 32, 0, 0)},
		{cong.New(), most - 4, window(32, 32, 31, 0)},
		{cong.New(), api.Most, window(32, 32, 3, 0)},
		{window(32, 32, 0, 6), most, window(32, 32, 31, 6)},
		{window(32, 32, 1, 6), most, window(32, 32, 0, 6)},
		{window(32, 2, 31, 6), most, window(32, 2, 30, 6)},
		{window(31, 31, 0, 6), most, window(32, 31, 0, 6)},
		{window(31, 31, 30, 6), most, window(32, 31, 30, 6)},
		{window(30, 30, 0, 6), most, window(32, 30, 2, 6)},
		// From 2 up to 32 takes 495, 15 more than a multiple of 32.
		{window(2, 2, 0, 6), most, window(32, 2, 16, 6)},
		{window(2, 2, 1, 6), most, window(32, 2, 17, 6)},
		{window(4, 33, 2, 6), most, window(32, 33, 2, 6)},
		{window(32, most, 2, 6), most, window(32, most, 2, 6)},
	} {
		wantGood(t, c.ahead, c.n, c.fields)
	}
}

// TestFarFields: 10.1, R1, fields at both ends of an int; each Good goes as far as its n, and no farther.
func TestFarFields(t *testing.T) {
	const least, most = math.MinInt, math.MaxInt
	for _, c := range []struct {
		ahead  cong.Window
		n      int
		fields cong.Window
	}{
		{window(least, most, 5, 5), 1, window(least+1, most, 5, 5)},
		{window(least, most, 5, 5), most, window(-1, most, 5, 5)},
		{window(-1, most, 5, 5), most, window(32, most, 5, 5)},
		{window(-1, 7, 5, 5), 8, window(7, 7, 5, 5)},
		{window(-1, 7, 5, 5), 10, window(8, 7, 0, 5)},
		{window(least, 7, 5, 5), most, window(-1, 7, 5, 5)},
		{window(least, -1, 5, 5), most, window(-1, -1, 5, 5)},
		{window(least, -2, 5, 5), most, window(-2, -2, 6, 5)},
		{window(least, least+1, 5, 5), 3, window(least+1, least+1, 7, 5)},
		{window(9, least, least, 5), most, window(9, least, -1, 5)},
		{window(9, least, -1, 5), 9, window(9, least, 8, 5)},
		{window(9, least, -1, 5), 10, window(10, least, 0, 5)},
		{window(9, 9, -5, 5), 24, window(11, 9, 0, 5)},
		{window(32, 32, -1, 5), most, window(32, 32, 30, 5)},
		{window(32, 9, least, 5), most, window(32, 9, -1, 5)},
		{window(31, 9, -1, 5), most, window(32, 9, 31, 5)},
		{window(0, 0, 0, 5), 1, window(0, 0, 1, 5)},
		{window(0, 0, 0, 5), most, window(0, 0, most, 5)},
		{window(0, 0, -1, 5), 1, window(1, 0, 0, 5)},
		{window(0, 0, -1, 5), 2, window(2, 0, 0, 5)},
		{window(0, 0, -1, 5), 4, window(3, 0, 0, 5)},
		{window(-3, -3, -5, 5), 2, window(-2, -3, 0, 5)},
		{window(-3, -3, -5, 5), 9, window(-2, -3, 7, 5)},
		{window(-3, least, 0, 5), most, window(-3, least, most, 5)},
		{window(least, least, least, 5), most, window(least, least, -1, 5)},
		{window(least, least, 0, 5), most, window(least, least, most, 5)},
		{window(5, 5, 6, 5), most - 6, window(5, 5, most, 5)},
	} {
		wantGood(t, c.ahead, c.n, c.fields)
	}
}

// TestBeyond: 10.1, a Size that its user set beyond MaxWindow is MaxWindow behind one packet; a loss ahead of that halves it as it is.
func TestBeyond(t *testing.T) {
	for _, size := range []int{33, 34, 64, 100, api.Most, math.MaxInt - 1, math.MaxInt} {
		wantGood(t, window(size, 32, 0, 4), 1, window(32, 32, 1, 4))
		wantGood(t, window(size, 32, 0, 4), 32, window(32, 32, 0, 4))
		wantGood(t, window(size, 32, 0, 4), 40, window(32, 32, 8, 4))
		wantGood(t, window(size, 32, 0, 4), math.MaxInt, window(32, 32, 31, 4))
		wantGood(t, window(size, 32, size-1, 4), 1, window(32, 32, 0, 4))
		wantGood(t, window(size, 32, size-1, 4), 3, window(32, 32, 2, 4))
		wantGood(t, window(size, 32, 31, 4), 1, window(32, 32, 32, 4))
		wantGood(t, window(size, 32, 31, 4), 2, window(32, 32, 33, 4))
		wantGood(t, window(size, 2, 5, 4), 27, window(32, 2, 0, 4))
		wantGood(t, window(size, 33, 5, 4), 1, window(32, 33, 6, 4))
		wantGood(t, window(size, 33, 5, 4), 90, window(32, 33, 6, 4))
		wantGood(t, window(size, size, 5, 4), 9, window(32, size, 6, 4))
		if size < math.MaxInt {
			wantGood(t, window(size, size+1, 5, 4), 1, window(32, size+1, 5, 4))
			wantGood(t, window(size, math.MaxInt, 5, 4), 1000, window(32, math.MaxInt, 5, 4))
		}
		wantBad(t, window(size, 2, 5, 4), 4, 6, window(size/2, size/2, 0, 6))
	}
}

// TestOddSlow: 10.1, a Slow that its user set: below 0, at 0, below MinWindow, beyond MaxWindow.
func TestOddSlow(t *testing.T) {
	for _, slow := range []int{math.MinInt, -5, -1, 0, 1, 2, 3, 4} {
		wantGood(t, window(4, slow, 0, 0), 3, window(4, slow, 3, 0))
		wantGood(t, window(4, slow, 0, 0), 4, window(5, slow, 0, 0))
	}
	for _, slow := range []int{5, 6, 7} {
		wantGood(t, window(4, slow, 0, 0), 1, window(5, slow, 0, 0))
	}
	wantGood(t, window(1, 0, 0, 0), 1, window(2, 0, 0, 0))
	wantGood(t, window(1, 2, 0, 0), 1, window(2, 2, 0, 0))
	wantGood(t, window(0, 1, 0, 0), 1, window(1, 1, 0, 0))
	wantGood(t, window(0, 1, 0, 0), 2, window(2, 1, 0, 0))
	wantGood(t, window(-4, 0, 0, 0), 4, window(0, 0, 0, 0))
	wantGood(t, window(-4, 0, 0, 0), 7, window(0, 0, 3, 0))
}

// TestAllFields: 10.1, each Window of small fields, odd ones too, against the chapter's words.
func TestAllFields(t *testing.T) {
	sizes := []int{-34, -33, -3, -2, -1, 0, 1, 2, 3, 4, 5, 6, 7, 15, 16, 29, 30, 31, 32, 33, 34, 35, 63, 64, 65, 66, 100}
	for _, size := range sizes {
		for _, slow := range sizes {
			for part := -6; part <= 70; part++ {
				ahead := window(size, slow, part, 0)
				p, row := plainOf(ahead), ahead
				for n := 1; n <= 90; n++ {
					p.one()
					row.Good(1)
					if row != p.window() {
						t.Fatalf("10.1: %+v, Good(1) %d times: %+v, not %+v", ahead, n, row, p.window())
					}
					w := ahead
					w.Good(n)
					if w != p.window() {
						t.Fatalf("10.1: %+v, Good(%d): %+v, not %+v", ahead, n, w, p.window())
					}
				}
				p = plainOf(ahead)
				w := ahead
				w.Bad(0, 5)
				p.bad(0, 5)
				want(t, &w, p.window())
			}
		}
	}
}

// TestAtOnce: 10.1, n at once are as n one by one, for each n and all that a Window can come to be.
func TestAtOnce(t *testing.T) {
	for slow := 2; slow <= 32; slow++ {
		for size := 2; size <= 32; size++ {
			for _, part := range []int{0, 1, size / 2, size - 1} {
				ahead := window(size, slow, part, 3)
				p := plainOf(ahead)
				for n := 1; n <= 620; n++ {
					p.one()
					w := ahead
					w.Good(n)
					if w != p.window() {
						t.Fatalf("10.1: %+v, Good(%d): %+v, not %+v", ahead, n, w, p.window())
					}
				}
			}
		}
	}
}

// TestEnds: R1, R4, every call ends, of any fields and numbers, and answers the same again; Good leaves Slow and Till, and Size at most MaxWindow.
func TestEnds(t *testing.T) {
	edges := []int{math.MinInt, math.MinInt + 1, math.MinInt + 32, math.MinInt / 2, -api.Most, -33, -32, -1, 0, 1, 2, 3, 31, 32, 33, 64, 1 << 32, api.Most, api.Most + 1, math.MaxInt - 32, math.MaxInt - 1, math.MaxInt}
	for _, size := range edges {
		for _, slow := range edges {
			for _, part := range edges {
				ahead := window(size, slow, part, slow)
				for _, n := range edges {
					w, again := ahead, ahead
					w.Good(n)
					again.Good(n)
					if w != again {
						t.Fatalf("R4: %+v, Good(%d): %+v, then %+v", ahead, n, w, again)
					}
					if w.Slow != slow || w.Till != slow || n >= 1 && w.Size > 32 || n < 1 && w != ahead {
						t.Fatalf("10.1: %+v, Good(%d): %+v", ahead, n, w)
					}
					if n > 1 {
						again = ahead
						again.Good(n / 2)
						again.Good(n - n/2)
						if w != again {
							t.Fatalf("10.1: %+v, Good(%d): %+v at once, %+v in two parts", ahead, n, w, again)
						}
					}
					w, p := ahead, plainOf(ahead)
					w.Bad(n, size)
					p.bad(n, size)
					if w != p.window() {
						t.Fatalf("10.1: %+v, Bad(%d, %d): %+v, not %+v", ahead, n, size, w, p.window())
					}
				}
			}
		}
	}
}

// act is one call on a Window, told as a number.
func act(w *cong.Window, p *plain, kind, next int) {
	switch kind {
	case 0:
		w.Good(1)
		p.good(1)
	case 1:
		w.Good(3)
		p.good(3)
	case 2:
		w.Good(30)
		p.good(30)
	case 3:
		w.Bad(next-1, next)
		p.bad(next-1, next)
	case 4:
		w.Bad(next-3, next)
		p.bad(next-3, next)
	case 5:
		w.Bad(next, next+2)
		p.bad(next, next+2)
	case 6:
		w.Good(-1)
		p.good(-1)
	}
}

// TestRows: 10.1, every row of five calls against the chapter's words.
func TestRows(t *testing.T) {
	const kinds = 7
	for row := range kinds * kinds * kinds * kinds * kinds {
		w, p := cong.New(), plainOf(window(4, 32, 0, 0))
		for k, rest := 0, row; k < 5; k, rest = k+1, rest/kinds {
			act(&w, p, rest%kinds, k+1)
			if w != p.window() {
				t.Fatalf("10.1: row %d, call %d: %+v, not %+v", row, k, w, p.window())
			}
		}
	}
}

// TestPlays: 10.1, long plays of mixed calls against the chapter's words.
func TestPlays(t *testing.T) {
	d := dice(10)
	for play := range 400 {
		w, p := cong.New(), plainOf(window(4, 32, 0, 0))
		next := 0
		for range 300 {
			next += d.below(5)
			if d.below(8+play%40) == 0 {
				num := next - d.below(9)
				w.Bad(num, next)
				p.bad(num, next)
			} else {
				n := d.from([]int{0, 1, 1, 1, 2, 3, 4, 5, 9, 40, -1})
				w.Good(n)
				p.good(n)
			}
			want(t, &w, p.window())
			if w.Size < 2 || w.Size > 32 || w.Part < 0 || w.Part >= w.Size {
				t.Fatalf("10.1: no call leaves it so: %+v", w)
			}
		}
	}
}

// way embeds a Window, as others do.
type way struct {
	name string
	cong.Window
}

// TestEmbedded: Ways, a type that embeds a Window has its calls and its fields.
func TestEmbedded(t *testing.T) {
	w := way{"there", cong.New()}
	w.Good(3)
	if w.Size != 7 || !w.Fits(6) || w.Fits(7) {
		t.Fatalf("10.1: embedded: %+v", w)
	}
	w.Bad(2, 8)
	if w.Window != window(3, 3, 0, 8) || w.name != "there" {
		t.Fatalf("10.1: embedded: %+v", w)
	}
	var asked interface {
		Good(int)
		Bad(int, int)
		Fits(int) bool
	} = &w
	asked.Good(3)
	if w.Window != window(4, 3, 0, 8) || !asked.Fits(3) {
		t.Fatalf("10.1: embedded: %+v", w)
	}
}

// TestApart: R7, Windows know nothing of one another, copies neither.
func TestApart(t *testing.T) {
	a, b := cong.New(), cong.New()
	a.Good(5)
	c := a
	c.Bad(3, 9)
	a.Good(1)
	b.Bad(0, 2)
	want(t, &a, window(10, 32, 0, 0))
	want(t, &b, window(2, 2, 0, 2))
	want(t, &c, window(4, 4, 0, 9))
	l := slices.Repeat([]cong.Window{cong.New()}, 3)
	l[1].Good(1)
	want(t, &l[0], window(4, 32, 0, 0))
	want(t, &l[1], window(5, 32, 0, 0))
	want(t, &l[2], window(4, 32, 0, 0))
}
