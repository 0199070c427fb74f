package credit_test

import (
	"math"
	"math/big"
	"slices"
	"testing"

	"argosy/api"
	"argosy/credit"
)

// limits is a Credit of these fields, in the order in which the chapter names them.
func limits(limit, used int) credit.Credit {
	return credit.Credit{Limit: limit, Used: used}
}

// grants is a Grant of these fields, in the order in which the chapter names them.
func grants(room, read, told int) credit.Grant {
	return credit.Grant{Room: room, Read: read, Told: told}
}

// wantCredit holds a Credit's fields and what is Left; twice, as asking changes nothing.
func wantCredit(t *testing.T, c *credit.Credit, fields credit.Credit, left int) {
	t.Helper()
	for range 2 {
		if *c != fields {
			t.Fatalf("12.1: %+v, not %+v", *c, fields)
		}
		if got := c.Left(); got != left {
			t.Fatalf("12.1: of %+v: Left %d, not %d", fields, got, left)
		}
	}
	if *c != fields {
		t.Fatalf("12.1: asked, it is %+v, not %+v", *c, fields)
	}
}

// wantUse holds what Use answers, and what it leaves of a Credit: all as it was, where it answers false.
func wantUse(t *testing.T, ahead credit.Credit, n int, may bool) {
	t.Helper()
	c, fields := ahead, ahead
	if may {
		fields.Used += n
	}
	if got := c.Use(n); got != may || c != fields {
		t.Fatalf("12.1: of %+v: Use(%d): %v, %+v, not %v, %+v", ahead, n, got, c, may, fields)
	}
}

// wantRaise holds what Raise answers, and what it leaves of a Credit: all as it was, where it answers false.
func wantRaise(t *testing.T, ahead credit.Credit, n int, may bool) {
	t.Helper()
	c, fields := ahead, ahead
	if may {
		fields.Limit = n
	}
	if got := c.Raise(n); got != may || c != fields {
		t.Fatalf("12.1: of %+v: Raise(%d): %v, %+v, not %v, %+v", ahead, n, got, c, may, fields)
	}
}

// wantGrant holds a Grant's fields and what is Due; twice, as asking changes nothing.
func wantGrant(t *testing.T, g *credit.Grant, fields credit.Grant, granted int, due bool) {
	t.Helper()
	for range 2 {
		if *g != fields {
			t.Fatalf("12.1: %+v, not %+v", *g, fields)
		}
		if n, is := g.Due(); n != granted || is != due {
			t.Fatalf("12.1: of %+v: Due %d, %v, not %d, %v", fields, n, is, granted, due)
		}
	}
	if *g != fields {
		t.Fatalf("12.1: asked, it is %+v, not %+v", *g, fields)
	}
}

// wantTell holds what Tell answers, once and again, and what it leaves of a Grant: Told is that, and none is Due.
func wantTell(t *testing.T, ahead credit.Grant, told int) {
	t.Helper()
	g, fields := ahead, ahead
	fields.Told = told
	for k := range 3 {
		if got := g.Tell(); got != told || g != fields {
			t.Fatalf("12.1: of %+v: Tell %d: %d, %+v, not %d, %+v", ahead, k, got, g, told, fields)
		}
		if n, due := g.Due(); due {
			t.Fatalf("12.1: of %+v: Due behind Tell %d: %d", ahead, k, n)
		}
	}
}

func num(n int) *big.Int          { return big.NewInt(int64(n)) }
func add(a, b *big.Int) *big.Int  { return new(big.Int).Add(a, b) }
func less(a, b *big.Int) *big.Int { return new(big.Int).Sub(a, b) }

// near is n as an int: the nearest one, where n is beyond them.
func near(n *big.Int) int {
	switch {
	case n.Cmp(num(math.MaxInt)) > 0:
		return math.MaxInt
	case n.Cmp(num(math.MinInt)) < 0:
		return math.MinInt
	}
	return int(n.Int64())
}

// left is Left as the chapter words it, in numbers of any length.
func left(c credit.Credit) *big.Int {
	n := less(num(c.Limit), num(c.Used))
	if n.Sign() < 0 {
		return num(0)
	}
	return n
}

// mayUse and mayRaise are what Use and Raise answer as the chapter words it.
func mayUse(c credit.Credit, n int) bool {
	return !(n < 0 || num(n).Cmp(left(c)) > 0)
}
func mayRaise(c credit.Credit, n int) bool {
	return !(n <= c.Limit || n > api.Most)
}

// due is Due as the chapter words it: Read + Room is told as an int, and held against Told as that.
func due(g credit.Grant) (int, bool) {
	granted := near(add(num(g.Read), num(g.Room)))
	half := new(big.Int).Quo(num(g.Room), num(2))
	if half.Cmp(num(1)) < 0 {
		half = num(1)
	}
	return granted, less(num(granted), num(g.Told)).Cmp(half) >= 0
}

// dice is a row of numbers that look thrown, the same at each run.
type dice uint64

func (d *dice) below(n int) int {
	*d = *d*6364136223846793005 + 1442695040888963407
	return int(uint64(*d)>>33) % n
}

func (d *dice) from(l []int) int { return l[d.below(len(l))] }

// ends are numbers at both ends of an int, at both ends of what may be granted, and about the bounds that the chapter names.
func ends() []int {
	l := []int{math.MinInt, math.MinInt + 1, math.MinInt + 2, math.MinInt / 2, math.MinInt/2 - 1, -api.Most, -1 << 20, math.MaxInt, math.MaxInt - 1, math.MaxInt - 2, math.MaxInt / 2, math.MaxInt/2 + 1, math.MaxInt - 1<<20, math.MaxInt - 1<<20 + 1, api.Most, api.Most - 1, api.Most + 1, 1 << 32}
	for n := -4; n <= 4; n++ {
		l = append(l, n)
	}
	return append(l, 9, 10, 11, 1<<19, 1<<19-1, 1<<20-1, 1<<20, 1<<20+1)
}

// TestExample: 12.1, the chapter's example.
func TestExample(t *testing.T) {
	g := credit.NewGrant(10)
	g.Eat(5)
	if n, is := g.Due(); n != 15 || !is {
		t.Fatalf("12.1: NewGrant(10), Eat 5, Due: %d, %v, not 15, true", n, is)
	}
	wantGrant(t, &g, grants(10, 5, 10), 15, true)
}

// TestLeft: 12.1, Limit less Used, at least 0.
func TestLeft(t *testing.T) {
	for _, x := range []struct{ limit, used, left int }{
		{0, 0, 0}, {1, 0, 1}, {10, 0, 10}, {10, 1, 9}, {10, 9, 1}, {10, 10, 0}, {10, 11, 0}, {10, 20, 0}, {0, 1, 0},
		{api.StreamRoom, 0, 400}, {api.ConnRoom, 999, 1}, {1 << 20, 1, 1<<20 - 1}, {1 << 40, 5, 1<<40 - 5},
		{api.Most, 0, api.Most}, {api.Most, api.Most - 1, 1}, {api.Most, api.Most, 0}, {api.Most, api.Most + 1, 0},
		{-1, 0, 0}, {0, -1, 1}, {-1, -1, 0}, {-3, -10, 7}, {-10, -3, 0}, {5, -5, 10}, {-5, 5, 0},
	} {
		c := limits(x.limit, x.used)
		wantCredit(t, &c, limits(x.limit, x.used), x.left)
	}
}

// TestUse: 12.1, Use of 0, of just what is Left, of one more, of numbers below 0; behind each other.
func TestUse(t *testing.T) {
	c := limits(10, 0)
	for _, x := range []struct {
		n    int
		may  bool
		used int
	}{{3, true, 3}, {0, true, 3}, {-1, false, 3}, {8, false, 3}, {math.MaxInt, false, 3}, {math.MinInt, false, 3}, {-3, false, 3}, {6, true, 9}, {2, false, 9}, {1, true, 10}, {1, false, 10}, {-1, false, 10}, {0, true, 10}, {-10, false, 10}} {
		wantUse(t, c, x.n, x.may)
		if got := c.Use(x.n); got != x.may {
			t.Fatalf("12.1: Use(%d): %v", x.n, got)
		}
		wantCredit(t, &c, limits(10, x.used), 10-x.used)
	}
	for limit := range 12 {
		for used := range 14 {
			for n := -3; n <= 16; n++ {
				wantUse(t, limits(limit, used), n, n >= 0 && (n == 0 || used+n <= limit))
			}
		}
	}
}

// TestUseAbove: 12.1, where Used is above Limit nothing is Left: 0 may be used, no more, until it is Raised beyond Used.
func TestUseAbove(t *testing.T) {
	c := limits(3, 9)
	for _, limit := range []int{3, 8, 9} {
		c.Raise(limit)
		wantCredit(t, &c, limits(limit, 9), 0)
		for n, may := range map[int]bool{0: true, 1: false, -1: false, -6: false, 6: false, 9: false, math.MaxInt: false, math.MinInt: false} {
			wantUse(t, c, n, may)
		}
	}
	if !c.Raise(10) || c.Use(2) || !c.Use(1) {
		t.Fatalf("12.1: Raised beyond Used: %+v", c)
	}
	wantCredit(t, &c, limits(10, 10), 0)
}

// TestRaise: 12.1, Raise to just Limit, to one more, to less, to api.Most and above it; behind each other.
func TestRaise(t *testing.T) {
	c := limits(10, 4)
	for _, x := range []struct {
		n     int
		may   bool
		limit int
	}{{10, false, 10}, {9, false, 10}, {4, false, 10}, {0, false, 10}, {-1, false, 10}, {-11, false, 10}, {math.MinInt, false, 10}, {api.Most + 1, false, 10}, {math.MaxInt, false, 10},
		{11, true, 11}, {11, false, 11}, {10, false, 11}, {12, true, 12}, {1 << 21, true, 1 << 21}, {1<<21 - 1, false, 1 << 21}, {1<<40 + 1, true, 1<<40 + 1},
		{api.Most - 1, true, api.Most - 1}, {api.Most + 1, false, api.Most - 1}, {api.Most, true, api.Most}, {api.Most, false, api.Most}, {api.Most + 1, false, api.Most}, {math.MaxInt, false, api.Most}} {
		wantRaise(t, c, x.n, x.may)
		if got := c.Raise(x.n); got != x.may {
			t.Fatalf("12.1: Raise(%d): %v", x.n, got)
		}
		wantCredit(t, &c, limits(x.limit, 4), x.limit-4)
	}
}

// TestRaiseAsksLimit: 12.1, Raise asks of the Limit alone, not of Used or of what is Left.
func TestRaiseAsksLimit(t *testing.T) {
	for _, used := range []int{math.MinInt, -7, 0, 3, 5, 6, 7, 100, api.Most, math.MaxInt} {
		for n := -2; n <= 12; n++ {
			wantRaise(t, limits(5, used), n, n > 5)
		}
	}
	for _, limit := range []int{-5, -1, 0, math.MinInt} {
		wantRaise(t, limits(limit, 0), limit, false)
		wantRaise(t, limits(limit, 0), limit+1, true)
		wantRaise(t, limits(limit, 0), api.Most, true)
		wantRaise(t, limits(limit, 0), api.Most+1, false)
	}
	for _, limit := range []int{api.Most, api.Most + 1, math.MaxInt - 1, math.MaxInt} {
		for _, n := range []int{0, api.Most, api.Most + 1, api.Most + 2, math.MaxInt} {
			wantRaise(t, limits(limit, 0), n, false)
		}
	}
}

// TestNewGrant: 12.1, Told is room, which is brought within 1 to 2^20; nothing is read, nothing Due.
func TestNewGrant(t *testing.T) {
	for room, in := range map[int]int{
		math.MinInt: 1, -1 << 20: 1, -5: 1, -1: 1, 0: 1, 1: 1, 2: 2, 3: 3, 10: 10, api.MaxStreams: 6, api.StreamRoom: 400, api.ConnRoom: 1000,
		1<<20 - 1: 1<<20 - 1, 1 << 20: 1 << 20, 1<<20 + 1: 1 << 20, 1 << 21: 1 << 20, 1 << 40: 1 << 20, api.Most: 1 << 20, math.MaxInt: 1 << 20,
	} {
		g := credit.NewGrant(room)
		wantGrant(t, &g, grants(in, 0, in), in, false)
		wantTell(t, g, in)
	}
}

// TestEat: 12.1, Read is n more, n brought within 0 to 2^20; nothing else is another one.
func TestEat(t *testing.T) {
	for _, read := range []int{0, 1, 7, 1 << 20, 1 << 40, -3} {
		for n, in := range map[int]int{
			0: 0, 1: 1, 2: 2, 5: 5, 400: 400, -1: 0, -2: 0, -1 << 20: 0, -api.Most: 0, math.MinInt: 0, math.MinInt + 1: 0,
			1<<20 - 1: 1<<20 - 1, 1 << 20: 1 << 20, 1<<20 + 1: 1 << 20, 1 << 21: 1 << 20, 1<<32 + 1: 1 << 20, api.Most: 1 << 20, math.MaxInt: 1 << 20,
		} {
			g := grants(9, read, 12)
			g.Eat(n)
			if g != grants(9, read+in, 12) {
				t.Fatalf("12.1: of Read %d: Eat(%d): %+v", read, n, g)
			}
		}
	}
}

// TestEatMore: 12.1, Eats together; more than was ever granted may be eaten.
func TestEatMore(t *testing.T) {
	g := credit.NewGrant(3)
	read := 0
	for k, n := range []int{1, 0, 2, -4, 9, 1 << 20, 1 << 20, 1<<20 + 5, 1, -1} {
		g.Eat(n)
		read += min(max(n, 0), 1<<20)
		wantGrant(t, &g, grants(3, read, 3), read+3, true)
		if g.Read != read {
			t.Fatalf("12.1: Eat %d", k)
		}
	}
}

// TestDue: 12.1, Due just below half of Room above Told, just there, and one above; Room even, odd and 1.
func TestDue(t *testing.T) {
	for room, half := range map[int]int{
		1: 1, 2: 1, 3: 1, 4: 2, 5: 2, 6: 3, 7: 3, 8: 4, 9: 4, 10: 5, 11: 5, 400: 200, 401: 200, 1000: 500, 1<<20 - 1: 1<<19 - 1, 1 << 20: 1 << 19,
		0: 1, -1: 1, -2: 1, -3: 1, -10: 1,
	} {
		for _, told := range []int{0, 1, room, 5000, 1 << 40, -30} {
			for above := half - 3; above <= half+3; above++ {
				g := grants(room, told+above-room, told)
				wantGrant(t, &g, g, told+above, above >= half)
			}
			for _, above := range []int{-half - 1, -half, -half + 1, -1, 0, 2 * half, 1 << 30, -1 << 30} {
				g := grants(room, told+above-room, told)
				wantGrant(t, &g, g, told+above, above >= half)
			}
		}
	}
}

// TestDueStep: 12.1, eaten one by one Due is true from half of the room on, and behind Tell from there on anew.
func TestDueStep(t *testing.T) {
	for room := 1; room <= 40; room++ {
		g := credit.NewGrant(room)
		half := max(1, room/2)
		told := 0
		for read := range 5*room + 3 {
			wantGrant(t, &g, grants(room, read, told+room), read+room, read-told >= half)
			if read-told >= half+read%3 {
				if got := g.Tell(); got != read+room {
					t.Fatalf("12.1: room %d, read %d: Tell %d", room, read, got)
				}
				told = read
				wantGrant(t, &g, grants(room, read, told+room), read+room, false)
			}
			g.Eat(1)
		}
	}
}

// TestTell: 12.1, Told is Read + Room, if that is more, whether it is Due or not; where it is as much, or less, Told stays.
func TestTell(t *testing.T) {
	for _, x := range []struct{ room, read, told, tell int }{
		{10, 0, 10, 10}, {10, 1, 10, 11}, {10, 4, 10, 14}, {10, 5, 10, 15}, {10, 30, 10, 40}, {10, 1, 12, 12}, {10, 0, 11, 11}, {5, 0, 99, 99}, {5, 93, 99, 99}, {5, 94, 99, 99}, {5, 95, 99, 100},
		{1, 0, 1, 1}, {1, 1, 1, 2}, {0, 0, 0, 0}, {0, 1, 0, 1}, {3, 0, 0, 3}, {-3, 0, 0, 0}, {-3, 0, -5, -3}, {-3, -1, -4, -4}, {2, -9, -8, -7},
		{1 << 20, 1 << 40, 1 << 20, 1<<40 + 1<<20}, {1, api.Most - 1, 5, api.Most}, {1, api.Most, api.Most, api.Most + 1},
	} {
		wantTell(t, grants(x.room, x.read, x.told), x.tell)
	}
}

// TestTellTwice: 12.1, Tell again tells the same, until more was eaten.
func TestTellTwice(t *testing.T) {
	g := credit.NewGrant(10)
	for _, x := range []struct{ eat, tell int }{{0, 10}, {6, 16}, {0, 16}, {-2, 16}, {1, 17}, {20, 37}} {
		g.Eat(x.eat)
		wantTell(t, g, x.tell)
		if g.Tell() != x.tell || g.Tell() != x.tell || g.Told != x.tell {
			t.Fatalf("12.1: Eat(%d), Tell: %+v, not %d", x.eat, g, x.tell)
		}
	}
	wantGrant(t, &g, grants(10, 27, 37), 37, false)
}

// TestZero: 12.1, the zero Credit and the zero Grant.
func TestZero(t *testing.T) {
	var c credit.Credit
	wantCredit(t, &c, limits(0, 0), 0)
	for n, may := range map[int]bool{0: true, 1: false, -1: false, math.MaxInt: false, math.MinInt: false} {
		wantUse(t, c, n, may)
	}
	for n, may := range map[int]bool{0: false, -1: false, 1: true, api.Most: true, api.Most + 1: false, math.MaxInt: false, math.MinInt: false} {
		wantRaise(t, c, n, may)
	}
	var g credit.Grant
	wantGrant(t, &g, grants(0, 0, 0), 0, false)
	wantTell(t, g, 0)
	g.Eat(0)
	g.Eat(-1)
	wantGrant(t, &g, grants(0, 0, 0), 0, false)
	g.Eat(1)
	wantGrant(t, &g, grants(0, 1, 0), 1, true)
	wantTell(t, g, 1)
}

// TestFarCredit: 12.1, R1, a Credit of fields at both ends of an int, held against the chapter's words in numbers of any length.
func TestFarCredit(t *testing.T) {
	for _, limit := range ends() {
		for _, used := range ends() {
			c := limits(limit, used)
			room := near(left(c))
			wantCredit(t, &c, limits(limit, used), room)
			numbers := append(ends(), limit, used, room, room-1)
			if room < math.MaxInt {
				numbers = append(numbers, room+1)
			}
			for _, n := range numbers {
				wantUse(t, c, n, mayUse(c, n))
				wantRaise(t, c, n, mayRaise(c, n))
			}
		}
	}
}

// TestFarLeft: 12.1, what is Left does not wrap round, above or below.
func TestFarLeft(t *testing.T) {
	for _, x := range []struct{ limit, used, left int }{
		{math.MaxInt, 0, math.MaxInt}, {math.MaxInt, -1, math.MaxInt}, {math.MaxInt, math.MinInt, math.MaxInt}, {0, math.MinInt, math.MaxInt}, {-1, math.MinInt, math.MaxInt}, {-2, math.MinInt, math.MaxInt - 1},
		{math.MinInt, math.MaxInt, 0}, {math.MinInt, 1, 0}, {math.MinInt, 0, 0}, {-2, math.MaxInt, 0}, {-1, math.MaxInt, 0}, {math.MinInt, math.MinInt, 0}, {math.MaxInt, math.MaxInt, 0}, {math.MinInt + 1, math.MinInt, 1},
	} {
		c := limits(x.limit, x.used)
		wantCredit(t, &c, limits(x.limit, x.used), x.left)
		wantUse(t, c, x.left, true)
		wantUse(t, c, 1, x.left > 0)
		wantUse(t, c, math.MaxInt, x.left == math.MaxInt)
	}
}

// TestFarGrant: 12.1, R1, a Grant of fields at both ends of an int, held against the chapter's words in numbers of any length.
func TestFarGrant(t *testing.T) {
	for _, room := range ends() {
		for _, read := range ends() {
			for _, told := range ends() {
				g := grants(room, read, told)
				granted, is := due(g)
				wantGrant(t, &g, grants(room, read, told), granted, is)
				wantTell(t, g, max(told, granted))
			}
			for _, n := range ends() {
				g := grants(room, read, 7)
				g.Eat(n)
				if want := near(add(num(read), num(min(max(n, 0), 1<<20)))); g != grants(room, want, 7) {
					t.Fatalf("12.1: of Read %d: Eat(%d): %+v, not %d", read, n, g, want)
				}
			}
		}
	}
}

// TestFarTold: 12.1, a Told far below or above, and a Read at the end of an int, which does not turn back.
func TestFarTold(t *testing.T) {
	for _, x := range []struct {
		g       credit.Grant
		granted int
		due     bool
	}{
		{grants(10, 0, math.MinInt), 10, true}, {grants(10, 0, math.MaxInt), 10, false}, {grants(10, -20, math.MaxInt), -10, false}, {grants(math.MaxInt, 0, math.MinInt), math.MaxInt, true},
		{grants(math.MinInt, 0, math.MaxInt), math.MinInt, false}, {grants(10, math.MaxInt, 5), math.MaxInt, true}, {grants(10, math.MaxInt-10, math.MaxInt-5), math.MaxInt, true}, {grants(10, math.MaxInt-10, math.MaxInt-4), math.MaxInt, false},
		{grants(10, math.MaxInt, math.MaxInt), math.MaxInt, false}, {grants(-10, math.MinInt, 0), math.MinInt, false}, {grants(math.MaxInt, 0, math.MaxInt/2+1), math.MaxInt, true}, {grants(math.MaxInt, 0, math.MaxInt/2+2), math.MaxInt, false},
	} {
		g := x.g
		wantGrant(t, &g, x.g, x.granted, x.due)
		wantTell(t, g, max(x.g.Told, x.granted))
	}
	for _, n := range []int{2, 3, 1 << 20, math.MaxInt} {
		g := grants(1, math.MaxInt-1, 0)
		g.Eat(n)
		g.Eat(n)
		wantGrant(t, &g, grants(1, math.MaxInt, 0), math.MaxInt, true)
	}
}

// act does one of a Credit's calls, and holds it against the chapter's words.
func act(t *testing.T, c *credit.Credit, kind, n int) {
	t.Helper()
	ahead, after, want, got := *c, *c, false, false
	switch kind {
	case 0:
		if want = mayUse(ahead, n); want {
			after.Used += n
		}
		got = c.Use(n)
	case 1:
		if want = mayRaise(ahead, n); want {
			after.Limit = n
		}
		got = c.Raise(n)
	}
	if got != want {
		t.Fatalf("12.1: of %+v: call %d of Use, Raise, with %d: %v", ahead, kind, n, got)
	}
	wantCredit(t, c, after, near(left(after)))
}

// TestCreditRows: 12.1, every row of five calls of a small Credit.
func TestCreditRows(t *testing.T) {
	calls := [][2]int{{0, -1}, {0, 0}, {0, 1}, {0, 2}, {0, 5}, {1, 0}, {1, 2}, {1, 3}, {1, 7}}
	rows := 1
	for range 5 {
		rows *= len(calls)
	}
	for row := range rows {
		c := limits(2, 0)
		for k, rest := 0, row; k < 5; k, rest = k+1, rest/len(calls) {
			one := calls[rest%len(calls)]
			act(t, &c, one[0], one[1])
		}
	}
}

// TestCreditPlays: 12.1, W6, long plays of Use, Raise and Left in any order; what was used is never beyond what was granted.
func TestCreditPlays(t *testing.T) {
	d := dice(12)
	for play := range 300 {
		c := limits(d.below(400), 0)
		sum := 0
		for range 300 {
			room := c.Limit - c.Used
			n := d.from([]int{-1, 0, 1, d.below(20), room, room + 1, room - 1, d.below(room + 1), math.MaxInt, math.MinInt})
			kind := 0
			if d.below(3+play%5) == 0 {
				kind = 1
				n = d.from([]int{c.Limit, c.Limit + 1, c.Limit - 1, c.Limit + d.below(300), c.Used, 0, -1, math.MinInt, math.MaxInt, api.Most + 1})
			}
			used := c.Used
			act(t, &c, kind, n)
			if used != c.Used {
				sum += n
			}
			if c.Used != sum || c.Used > c.Limit || c.Left() != c.Limit-sum {
				t.Fatalf("12.1: used %d in all: %+v", sum, c)
			}
		}
	}
}

// do does one of a Grant's calls, and holds it against the chapter's words; 0 is Eat, 1 Tell, others ask alone.
func do(t *testing.T, g *credit.Grant, kind, n int) {
	t.Helper()
	after := *g
	switch kind {
	case 0:
		after.Read += min(max(n, 0), 1<<20)
		g.Eat(n)
	case 1:
		after.Told = max(after.Told, after.Read+after.Room)
		if got := g.Tell(); got != after.Told {
			t.Fatalf("12.1: Tell %d, not %d", got, after.Told)
		}
	}
	granted, is := due(after)
	wantGrant(t, g, after, granted, is)
}

// TestGrantRows: 12.1, every row of six calls of a small Grant.
func TestGrantRows(t *testing.T) {
	calls := [][2]int{{0, -1}, {0, 0}, {0, 1}, {0, 2}, {0, 5}, {1, 0}}
	rows := 1
	for range 6 {
		rows *= len(calls)
	}
	for room := 1; room <= 5; room++ {
		for row := range rows {
			g := credit.NewGrant(room)
			for k, rest := 0, row; k < 6; k, rest = k+1, rest/len(calls) {
				one := calls[rest%len(calls)]
				do(t, &g, one[0], one[1])
			}
		}
	}
}

// TestGrantPlays: 12.1, long plays of Eat, Due and Tell in any order; Told never falls, and is no more than Room beyond Read.
func TestGrantPlays(t *testing.T) {
	d := dice(21)
	for play := range 300 {
		room := d.from([]int{-3, 0, 1, 2, 3, 6, 7, 400, 1000, 1 << 20, 1 << 30, 1 + d.below(50)})
		g := credit.NewGrant(room)
		in := min(max(room, 1), 1<<20)
		for range 300 {
			told := g.Told
			n := d.from([]int{-1, 0, 1, 1, 2, d.below(in), in / 2, in/2 + 1, 1 << 20, 1<<20 + 1, math.MaxInt, math.MinInt})
			kind := 0
			if d.below(3+play%5) == 0 {
				kind = 1
			}
			do(t, &g, kind, n)
			if g.Room != in || g.Told < told || g.Told > g.Read+g.Room || kind == 0 && g.Told != told {
				t.Fatalf("12.1: Told was %d: %+v", told, g)
			}
		}
	}
}

// TestBoth: W6, a Credit that is Raised by what a Grant Tells lets just that be used, and does not stand still.
func TestBoth(t *testing.T) {
	d := dice(33)
	for _, room := range []int{1, 2, 3, 7, 400, 1000} {
		g := credit.NewGrant(room)
		c := limits(g.Told, 0)
		for range 3000 {
			may := g.Told - c.Used
			if n := d.below(room + 2); c.Use(n) != (n <= may) || c.Used > g.Told {
				t.Fatalf("W6: Use(%d): %+v, %+v", n, c, g)
			}
			g.Eat(d.below(c.Used - g.Read + 1))
			if n, is := g.Due(); is && (g.Tell() != n || !c.Raise(n)) {
				t.Fatalf("12.1: Due %d: %+v, %+v", n, c, g)
			}
		}
		c.Use(c.Left())
		g.Eat(c.Used - g.Read)
		if n, is := g.Due(); c.Left() != 0 || n != c.Used+room || !is {
			t.Fatalf("W6: all was used and read, and yet none is Due: %+v, %+v", c, g)
		}
	}
}

// stream has both within it, as the streams of layers above have one of them.
type stream struct {
	name string
	credit.Credit
	credit.Grant
}

// TestEmbedded: Ways, a type that embeds a Credit and a Grant has their calls and their fields.
func TestEmbedded(t *testing.T) {
	s := &stream{"there", limits(10, 0), credit.NewGrant(6)}
	if !s.Use(4) || s.Use(7) || s.Left() != 6 || s.Used != 4 || s.Limit != 10 {
		t.Fatalf("12.1: embedded: %+v", s)
	}
	s.Eat(3)
	if n, is := s.Due(); n != 9 || !is || s.Room != 6 || s.Read != 3 || s.Told != 6 {
		t.Fatalf("12.1: embedded: %+v", s)
	}
	if s.Tell() != 9 || !s.Raise(11) || s.Raise(11) || s.name != "there" {
		t.Fatalf("12.1: embedded: %+v", s)
	}
	wantCredit(t, &s.Credit, limits(11, 4), 7)
	wantGrant(t, &s.Grant, grants(6, 3, 9), 9, false)
	var sends interface {
		Left() int
		Use(int) bool
		Raise(int) bool
	} = s
	var reads interface {
		Eat(int)
		Due() (int, bool)
		Tell() int
	} = s
	reads.Eat(5)
	if !sends.Use(7) || sends.Left() != 0 || !sends.Raise(reads.Tell()) || s.Limit != 14 {
		t.Fatalf("12.1: embedded: %+v", s)
	}
	wantCredit(t, &s.Credit, limits(14, 11), 3)
	wantGrant(t, &s.Grant, grants(6, 8, 14), 14, false)
}

// TestEmbeddedZero: Ways, what lies embedded in a zero value is the zero Credit and the zero Grant.
func TestEmbeddedZero(t *testing.T) {
	var s stream
	if s.Left() != 0 || !s.Use(0) || s.Use(1) || !s.Raise(2) || !s.Use(2) {
		t.Fatalf("12.1: embedded: %+v", s)
	}
	s.Eat(1)
	if n, is := s.Due(); n != 1 || !is || s.Tell() != 1 {
		t.Fatalf("12.1: embedded: %+v", s)
	}
	if s != (stream{Credit: limits(2, 2), Grant: grants(0, 1, 1)}) {
		t.Fatalf("12.1: embedded: %+v", s)
	}
}

// TestApart: R7, Credits and Grants know nothing of one another, copies neither.
func TestApart(t *testing.T) {
	a, b := limits(10, 0), limits(10, 0)
	a.Use(5)
	c := a
	c.Use(2)
	c.Raise(20)
	a.Use(1)
	wantCredit(t, &a, limits(10, 6), 4)
	wantCredit(t, &b, limits(10, 0), 10)
	wantCredit(t, &c, limits(20, 7), 13)

	g, h := credit.NewGrant(4), credit.NewGrant(4)
	g.Eat(1)
	k := g
	k.Eat(2)
	k.Tell()
	g.Eat(3)
	wantGrant(t, &g, grants(4, 4, 4), 8, true)
	wantGrant(t, &h, grants(4, 0, 4), 4, false)
	wantGrant(t, &k, grants(4, 3, 7), 7, false)

	l := slices.Repeat([]credit.Grant{credit.NewGrant(2)}, 3)
	l[1].Eat(1)
	wantGrant(t, &l[0], grants(2, 0, 2), 2, false)
	wantGrant(t, &l[1], grants(2, 1, 2), 3, true)
	wantGrant(t, &l[2], grants(2, 0, 2), 2, false)
}
