package rtt_test

import (
	"math"
	"math/big"
	"testing"

	"argosy/api"
	"argosy/rtt"
)

// told is what a Rtt answers.
type told struct{ round, wait, late int }

func ask(r *rtt.Rtt) told {
	return told{r.Round(), r.Wait(), r.Late()}
}

// want holds a Rtt's fields and all that it answers against what they are to be; twice, as asking changes nothing.
func want(t *testing.T, r *rtt.Rtt, fields rtt.Rtt, answers told) {
	t.Helper()
	for range 2 {
		if *r != fields {
			t.Fatalf("8.1: %+v, not %+v", *r, fields)
		}
		if got := ask(r); got != answers {
			t.Fatalf("8.1: of %+v: %+v, not %+v", fields, got, answers)
		}
	}
	if *r != fields {
		t.Fatalf("8.1: asked, it is %+v, not %+v", *r, fields)
	}
}

// wantTold holds what a Rtt of these fields answers; a call on each is asked alone, then all of them.
func wantTold(t *testing.T, fields rtt.Rtt, answers told) {
	t.Helper()
	for k, one := range []struct {
		ask  func(*rtt.Rtt) int
		want int
	}{{(*rtt.Rtt).Round, answers.round}, {(*rtt.Rtt).Wait, answers.wait}, {(*rtt.Rtt).Late, answers.late}} {
		r := fields
		if got := one.ask(&r); got != one.want {
			t.Fatalf("8.1: of %+v: call %d of Round, Wait, Late: %d, not %d", fields, k, got, one.want)
		}
		if r != fields {
			t.Fatalf("8.1: call %d of Round, Wait, Late changed %+v to %+v", k, fields, r)
		}
	}
	r := fields
	want(t, &r, fields, answers)
}

// plain is a Rtt as the chapter words it, in numbers of any length.
type plain struct {
	smooth, vary, back *big.Int
	some               bool
}

func num(n int) *big.Int          { return big.NewInt(int64(n)) }
func add(a, b *big.Int) *big.Int  { return new(big.Int).Add(a, b) }
func less(a, b *big.Int) *big.Int { return new(big.Int).Sub(a, b) }
func quo(a *big.Int, b int) *big.Int {
	return new(big.Int).Quo(a, num(b))
}
func atLeast(a *big.Int, b int) *big.Int {
	if a.Cmp(num(b)) < 0 {
		return num(b)
	}
	return a
}
func atMost(a *big.Int, b int) *big.Int {
	if a.Cmp(num(b)) > 0 {
		return num(b)
	}
	return a
}

func plainOf(r rtt.Rtt) *plain {
	return &plain{num(r.Smooth), num(r.Var), num(r.Back), r.Some}
}

func (p *plain) sample(n int) {
	x := atMost(atLeast(num(n), 1), 1000)
	if !p.some {
		p.smooth = new(big.Int).Mul(x, num(8))
		p.vary = new(big.Int).Mul(x, num(2))
	} else {
		d := less(x, quo(p.smooth, 8))
		d.Abs(d)
		p.vary = add(less(p.vary, quo(p.vary, 4)), d)
		p.smooth = add(less(p.smooth, quo(p.smooth, 8)), x)
	}
	p.some = true
	p.back = num(0)
}

func (p *plain) round() *big.Int {
	if !p.some {
		return num(4)
	}
	return atLeast(quo(p.smooth, 8), 1)
}

func (p *plain) wait() *big.Int {
	w := num(4 + 4)
	if p.some {
		w = add(p.round(), atLeast(p.vary, 1))
	}
	times := atMost(atLeast(p.back, 0), 10).Int64()
	for range times {
		w = add(w, w)
	}
	return atMost(w, 32)
}

func (p *plain) late() *big.Int {
	return add(add(p.round(), quo(p.round(), 8)), num(1))
}

// whole is n as an int; a test fails of one that is too long for it.
func whole(t *testing.T, n *big.Int) int {
	t.Helper()
	if !n.IsInt64() {
		t.Fatalf("a number that is no int: %v", n)
	}
	return int(n.Int64())
}

func (p *plain) fields(t *testing.T) rtt.Rtt {
	t.Helper()
	return rtt.Rtt{Smooth: whole(t, p.smooth), Var: whole(t, p.vary), Back: whole(t, p.back), Some: p.some}
}

func (p *plain) told(t *testing.T) told {
	t.Helper()
	return told{whole(t, p.round()), whole(t, p.wait()), whole(t, p.late())}
}

// dice is a row of numbers that look thrown, the same at each run.
type dice uint64

func (d *dice) below(n int) int {
	*d = *d*6364136223846793005 + 1442695040888963407
	return int(uint64(*d)>>33) % n
}

// TestExample: 8.1, the chapter's example, and what else there is to ask of nothing.
func TestExample(t *testing.T) {
	var r rtt.Rtt
	if w := r.Wait(); w != 8 {
		t.Fatalf("8.1: nothing: Wait %d, not 8", w)
	}
	wantTold(t, rtt.Rtt{}, told{4, 8, 5})
}

// TestNothing: 8.1, as long as there is no sample: what the fields hold says nothing, Back apart.
func TestNothing(t *testing.T) {
	for back, wait := range map[int]int{0: 8, 1: 16, 2: 32, 3: 32, 9: 32, 10: 32, 11: 32, 64: 32, math.MaxInt: 32, -1: 8, -2: 8, math.MinInt: 8} {
		wantTold(t, rtt.Rtt{Back: back}, told{4, wait, 5})
	}
	for _, n := range []int{1, 7, 8, 80, 1000, math.MaxInt, -1, -8, math.MinInt} {
		wantTold(t, rtt.Rtt{Smooth: n}, told{4, 8, 5})
		wantTold(t, rtt.Rtt{Var: n}, told{4, 8, 5})
		wantTold(t, rtt.Rtt{Smooth: n, Var: n, Back: 1}, told{4, 16, 5})
	}
}

// TestFirst: 8.1, the first sample; what the fields held ahead of it says nothing.
func TestFirst(t *testing.T) {
	for _, c := range []struct {
		x, smooth, vary int
		answers         told
	}{
		{1, 8, 2, told{1, 3, 2}},
		{2, 16, 4, told{2, 6, 3}},
		{3, 24, 6, told{3, 9, 4}},
		{7, 56, 14, told{7, 21, 8}},
		{8, 64, 16, told{8, 24, 10}},
		{9, 72, 18, told{9, 27, 11}},
		{10, 80, 20, told{10, 30, 12}},
		{11, 88, 22, told{11, 32, 13}},
		{15, 120, 30, told{15, 32, 17}},
		{16, 128, 32, told{16, 32, 19}},
		{31, 248, 62, told{31, 32, 35}},
		{32, 256, 64, told{32, 32, 37}},
		{33, 264, 66, told{33, 32, 38}},
		{999, 7992, 1998, told{999, 32, 1124}},
		{1000, 8000, 2000, told{1000, 32, 1126}},
	} {
		for _, ahead := range []rtt.Rtt{{}, {Smooth: 123, Var: 45, Back: 6}, {Smooth: -1, Var: math.MinInt, Back: -3}, {Smooth: math.MaxInt, Var: math.MaxInt, Back: math.MaxInt}} {
			r := ahead
			r.Sample(c.x)
			want(t, &r, rtt.Rtt{Smooth: c.smooth, Var: c.vary, Some: true}, c.answers)
		}
	}
}

// TestSecond: 8.1, a second sample: above the smooth round, below it, and just it.
func TestSecond(t *testing.T) {
	for _, c := range []struct {
		first, x, smooth, vary int
		answers                told
	}{
		{10, 10, 80, 15, told{10, 25, 12}},
		{10, 11, 81, 16, told{10, 26, 12}},
		{10, 9, 79, 16, told{9, 25, 11}},
		{10, 30, 100, 35, told{12, 32, 14}},
		{10, 2, 72, 23, told{9, 32, 11}},
		{10, 1, 71, 24, told{8, 32, 10}},
		{10, 1000, 1070, 1005, told{133, 32, 150}},
		{1, 1, 8, 2, told{1, 3, 2}},
		{1, 2, 9, 3, told{1, 4, 2}},
		{1, 9, 16, 10, told{2, 12, 3}},
		{1, 1000, 1007, 1001, told{125, 32, 141}},
		{2, 1, 15, 4, told{1, 5, 2}},
		{3, 3, 24, 5, told{3, 8, 4}},
		{1000, 1000, 8000, 1500, told{1000, 32, 1126}},
		{1000, 1, 7001, 2499, told{875, 32, 985}},
		{1000, 999, 7999, 1501, told{999, 32, 1124}},
	} {
		var r rtt.Rtt
		r.Sample(c.first)
		r.Sample(c.x)
		want(t, &r, rtt.Rtt{Smooth: c.smooth, Var: c.vary, Some: true}, c.answers)
	}
}

// TestOrder: 8.1, Var is of the Smooth ahead of the sample, not of the one behind it.
func TestOrder(t *testing.T) {
	r := rtt.Rtt{Smooth: 80, Var: 0, Some: true}
	r.Sample(90)
	want(t, &r, rtt.Rtt{Smooth: 160, Var: 80, Some: true}, told{20, 32, 23})
	r = rtt.Rtt{Smooth: 160, Var: 0, Some: true}
	r.Sample(4)
	want(t, &r, rtt.Rtt{Smooth: 144, Var: 16, Some: true}, told{18, 32, 21})
}

// TestRests: 8.1, each quotient is without its rest: Smooth's and Var's in Sample, Smooth's in Round, Round's in Late.
func TestRests(t *testing.T) {
	for k := range 8 {
		r := rtt.Rtt{Smooth: 80 + k, Var: 8, Some: true}
		wantTold(t, r, told{10, 18, 12})
		r.Sample(10)
		want(t, &r, rtt.Rtt{Smooth: 80 + k, Var: 6, Some: true}, told{10, 16, 12})
	}
	for k := range 4 {
		r := rtt.Rtt{Smooth: 16, Var: 4 + k, Some: true}
		r.Sample(2)
		want(t, &r, rtt.Rtt{Smooth: 16, Var: 3 + k, Some: true}, told{2, 5 + k, 3})
	}
	for k := range 8 {
		wantTold(t, rtt.Rtt{Smooth: 8 * (16 + k), Var: 1, Some: true}, told{16 + k, 17 + k, 16 + k + 3})
		wantTold(t, rtt.Rtt{Smooth: 8*(24+k) + 7, Var: 1, Some: true}, told{24 + k, 25 + k, 24 + k + 4})
	}
}

// TestRow: 8.1, one sample behind another; each clears Back.
func TestRow(t *testing.T) {
	var r rtt.Rtt
	for _, c := range []struct {
		x, smooth, vary int
		answers         told
	}{
		{4, 32, 8, told{4, 12, 5}},
		{4, 32, 6, told{4, 10, 5}},
		{4, 32, 5, told{4, 9, 5}},
		{4, 32, 4, told{4, 8, 5}},
		{4, 32, 3, told{4, 7, 5}},
		{4, 32, 3, told{4, 7, 5}},
		{12, 40, 11, told{5, 16, 6}},
		{2, 37, 12, told{4, 16, 5}},
		{2, 35, 11, told{4, 15, 5}},
		{20, 51, 25, told{6, 31, 7}},
		{6, 51, 19, told{6, 25, 7}},
		{6, 51, 15, told{6, 21, 7}},
		{0, 46, 17, told{5, 22, 6}},
		{-9, 42, 17, told{5, 22, 6}},
		{1, 38, 17, told{4, 21, 5}},
		{1001, 1034, 1009, told{129, 32, 146}},
	} {
		r.Back = 3
		r.Sample(c.x)
		want(t, &r, rtt.Rtt{Smooth: c.smooth, Var: c.vary, Some: true}, c.answers)
	}
}

// TestAlike: 8.1, samples that are all alike: Smooth stays, Var falls to 3 or stays below it.
func TestAlike(t *testing.T) {
	for x := 1; x <= 1000; x++ {
		var r rtt.Rtt
		vary := 2 * x
		for k := range 50 {
			r.Sample(x)
			if r != (rtt.Rtt{Smooth: 8 * x, Var: vary, Some: true}) {
				t.Fatalf("8.1: %d, %d times: %+v, not Var %d", x, k+1, r, vary)
			}
			vary -= vary / 4
		}
		if r.Var != min(3, 2*x) || r.Round() != x || r.Wait() != min(32, x+r.Var) {
			t.Fatalf("8.1: %d, over and over: %+v, Round %d, Wait %d", x, r, r.Round(), r.Wait())
		}
	}
}

// TestBeyond: 8.1, R1, samples below 1 are 1, those above 1000 are 1000, first ones and later ones.
func TestBeyond(t *testing.T) {
	for x, in := range map[int]int{0: 1, -1: 1, -1000: 1, math.MinInt: 1, math.MinInt + 1: 1, 1001: 1000, 8000: 1000, api.Most: 1000, api.Most + 1: 1000, math.MaxInt: 1000, 1: 1, 1000: 1000} {
		for _, ahead := range []rtt.Rtt{{}, {Back: 5}, {Smooth: 80, Var: 20, Some: true}, {Smooth: 8, Var: 2, Back: 4, Some: true}, {Smooth: 8000, Var: 2000, Some: true}} {
			r, p := ahead, plainOf(ahead)
			r.Sample(x)
			p.sample(in)
			want(t, &r, p.fields(t), p.told(t))
		}
	}
}

// TestLeast: 8.1, a Var of 0 or below counts as 1 in Wait, a Smooth below 8 as a Round of 1.
func TestLeast(t *testing.T) {
	wantTold(t, rtt.Rtt{Some: true}, told{1, 2, 2})
	for vary, wait := range map[int]int{math.MinInt: 6, -4: 6, -1: 6, 0: 6, 1: 6, 2: 7, 3: 8, 4: 9} {
		wantTold(t, rtt.Rtt{Smooth: 40, Var: vary, Some: true}, told{5, wait, 6})
	}
	for smooth, round := range map[int]int{math.MinInt: 1, -80: 1, -8: 1, -1: 1, 0: 1, 1: 1, 7: 1, 8: 1, 15: 1, 16: 2, 17: 2} {
		wantTold(t, rtt.Rtt{Smooth: smooth, Var: 5, Some: true}, told{round, round + 5, round + 1})
	}
}

// TestBack: 8.1, each Back doubles Wait, from 0 to 10 of them, and Wait alone.
func TestBack(t *testing.T) {
	for back, wait := range map[int]int{math.MinInt: 2, -64: 2, -11: 2, -10: 2, -2: 2, -1: 2, 0: 2, 1: 4, 2: 8, 3: 16, 4: 32, 5: 32, 9: 32, 10: 32, 11: 32, 62: 32, 63: 32, 64: 32, 65: 32, api.Most: 32, math.MaxInt: 32} {
		wantTold(t, rtt.Rtt{Smooth: 8, Var: 1, Back: back, Some: true}, told{1, min(wait, 32), 2})
		wantTold(t, rtt.Rtt{Smooth: 8, Var: 2, Back: back, Some: true}, told{1, min(wait/2*3, 32), 2})
		wantTold(t, rtt.Rtt{Smooth: 40, Var: 2, Back: back, Some: true}, told{5, min(wait/2*7, 32), 6})
	}
}

// TestMaxWait: 8.1, a Wait of just MaxWait stands, one beyond is MaxWait, with each Back.
func TestMaxWait(t *testing.T) {
	for _, c := range []struct{ smooth, vary, back, wait int }{
		{80, 20, 0, 30}, {80, 21, 0, 31}, {80, 22, 0, 32}, {80, 23, 0, 32}, {80, 24, 0, 32},
		{248, 1, 0, 32}, {247, 1, 0, 31}, {248, 0, 0, 32}, {240, 0, 0, 31}, {256, 0, 0, 32}, {256, 1, 0, 32}, {264, 1, 0, 32},
		{8, 30, 0, 31}, {8, 31, 0, 32}, {8, 32, 0, 32}, {8, 33, 0, 32},
		{80, 5, 1, 30}, {80, 6, 1, 32}, {80, 7, 1, 32},
		{32, 3, 2, 28}, {32, 4, 2, 32}, {32, 5, 2, 32},
		{16, 1, 3, 24}, {16, 2, 3, 32}, {16, 3, 3, 32},
		{8, 1, 4, 32}, {8, 1, 3, 16}, {8, 2, 4, 32},
		{120, 17, 0, 32}, {128, 16, 0, 32}, {128, 17, 0, 32}, {128, 15, 0, 31},
	} {
		r := rtt.Rtt{Smooth: c.smooth, Var: c.vary, Back: c.back, Some: true}
		round := max(1, c.smooth/8)
		wantTold(t, r, told{round, c.wait, round + round/8 + 1})
	}
}

// edges are fields at the ends of what an int may be, and about the numbers that the chapter names.
func edges() []int {
	l := []int{math.MinInt, math.MinInt + 1, math.MinInt + 7, math.MinInt / 2, -api.Most, math.MaxInt, math.MaxInt - 1, math.MaxInt - 7, math.MaxInt / 2, api.Most, api.Most + 1, 1 << 53, -1 << 53}
	for n := -12; n <= 12; n++ {
		l = append(l, n)
	}
	return append(l, 31, 32, 33, 62, 63, 64, 999, 1000, 1001, 7999, 8000, 8001, 2000)
}

// TestExtremes: 8.1, R1, a Rtt of any fields answers as the chapter says, and samples go on from there.
func TestExtremes(t *testing.T) {
	for _, smooth := range edges() {
		for _, vary := range edges() {
			for _, back := range []int{math.MinInt, -1, 0, 1, 4, 10, 11, 63, 64, math.MaxInt} {
				for _, some := range []bool{false, true} {
					r := rtt.Rtt{Smooth: smooth, Var: vary, Back: back, Some: some}
					wantTold(t, r, plainOf(r).told(t))
				}
			}
			for _, x := range []int{math.MinInt, 0, 1, 2, 500, 1000, 1001, math.MaxInt} {
				r := rtt.Rtt{Smooth: smooth, Var: vary, Back: 7, Some: true}
				p := plainOf(r)
				for range 3 {
					r.Sample(x)
					p.sample(x)
					want(t, &r, p.fields(t), p.told(t))
				}
			}
		}
	}
}

// TestAgainstPlain: 8.1, long plays of mixed samples against the chapter's words.
func TestAgainstPlain(t *testing.T) {
	d := dice(8)
	for play := range 200 {
		r, p := rtt.Rtt{}, plainOf(rtt.Rtt{})
		most := []int{3, 12, 40, 1100}[play%4]
		for range 200 {
			switch d.below(6) {
			case 0:
				r.Back = d.below(14) - 2
				p.back = num(r.Back)
			case 1:
				x := most - d.below(4)
				r.Sample(x)
				p.sample(x)
			default:
				x := d.below(most+2) - 1
				r.Sample(x)
				p.sample(x)
			}
			want(t, &r, p.fields(t), p.told(t))
		}
	}
}

// TestPairs: 8.1, each first sample with each second one.
func TestPairs(t *testing.T) {
	for first := 0; first <= 1001; first++ {
		for x := 0; x <= 1001; x++ {
			a, b := min(max(first, 1), 1000), min(max(x, 1), 1000)
			d := max(a, b) - min(a, b)
			fields := rtt.Rtt{Smooth: 7*a + b, Var: 2*a - a/2 + d, Some: true}
			var r rtt.Rtt
			r.Sample(first)
			r.Sample(x)
			if r != fields {
				t.Fatalf("8.1: %d, then %d: %+v, not %+v", first, x, r, fields)
			}
		}
	}
}

// TestApart: R4, R7, Rtts know nothing of one another, copies neither; what is told hangs on the fields alone.
func TestApart(t *testing.T) {
	var a, b rtt.Rtt
	a.Sample(10)
	want(t, &b, rtt.Rtt{}, told{4, 8, 5})
	c := a
	b.Sample(3)
	c.Sample(30)
	c.Back = 2
	want(t, &a, rtt.Rtt{Smooth: 80, Var: 20, Some: true}, told{10, 30, 12})
	want(t, &b, rtt.Rtt{Smooth: 24, Var: 6, Some: true}, told{3, 9, 4})
	want(t, &c, rtt.Rtt{Smooth: 100, Var: 35, Back: 2, Some: true}, told{12, 32, 14})
	made := rtt.Rtt{Smooth: 80, Var: 20, Some: true}
	a.Sample(30)
	made.Sample(30)
	if a != made {
		t.Fatalf("R4: of the same fields: %+v and %+v", a, made)
	}
}

// way is a type of others: a Rtt is within it, and its own Late stands beside the Rtt's.
type way struct {
	rtt.Rtt
	lost int
}

func (w *way) Late() int { return w.lost + w.Rtt.Late() }

// TestEmbedded: 8.1, Ways: a type that embeds a Rtt has its fields and its calls.
func TestEmbedded(t *testing.T) {
	w := way{lost: 100}
	if w.Some || w.Round() != 4 || w.Wait() != 8 || w.Late() != 105 {
		t.Fatalf("8.1: embedded, nothing: %+v", w)
	}
	w.Back++
	if w.Wait() != 16 || w.Rtt.Wait() != 16 {
		t.Fatalf("8.1: embedded, Back 1: Wait %d", w.Wait())
	}
	w.Sample(10)
	if !w.Some || w.Smooth != 80 || w.Var != 20 || w.Back != 0 || w.Round() != 10 || w.Wait() != 30 || w.Late() != 112 || w.lost != 100 {
		t.Fatalf("8.1: embedded, a sample: %+v", w)
	}
	var asker interface {
		Sample(int)
		Round() int
		Wait() int
		Late() int
	} = &w.Rtt
	asker.Sample(10)
	if w.Var != 15 || asker.Wait() != 25 || asker.Late() != 12 {
		t.Fatalf("8.1: embedded, asked as itself: %+v", w)
	}
}
