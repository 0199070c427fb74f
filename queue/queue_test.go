package queue_test

import (
	"bytes"
	"math"
	"runtime"
	"slices"
	"strconv"
	"strings"
	"testing"

	"argosy/api"
	"argosy/frame"
	"argosy/queue"
)

// most is how many bytes an item has at most, full how many items wait at most.
const (
	most = 116
	full = 32
)

func item(note int, text string) queue.Item {
	return queue.Item{Note: note, Data: []byte(text)}
}

// same holds the answer of First or Pop; none is an item that is zero.
func same(x queue.Item, note int, text string) bool {
	return x.Note == note && string(x.Data) == text
}

// numbered are n items with the Notes from up, each with its Note as its bytes.
func numbered(from, n int) []queue.Item {
	var l []queue.Item
	for k := range n {
		l = append(l, item(from+k, strconv.Itoa(from+k)))
	}
	return l
}

func wantPut(t *testing.T, q *queue.Queue, put int, l ...queue.Item) {
	t.Helper()
	ahead := q.Len()
	if n := q.Put(l...); n != put {
		t.Fatalf("16.1: Put of %d: %d, not %d", len(l), n, put)
	}
	wantLen(t, q, ahead+put)
}

// wantLen asks twice, as asking changes nothing.
func wantLen(t *testing.T, q *queue.Queue, n int) {
	t.Helper()
	for range 2 {
		if got := q.Len(); got != n {
			t.Fatalf("16.1: Len: %d, not %d", got, n)
		}
	}
}

// wantFirst asks twice, as First takes nothing.
func wantFirst(t *testing.T, q *queue.Queue, note int, text string) {
	t.Helper()
	ahead := q.Len()
	for range 2 {
		if x, ok := q.First(); !ok || !same(x, note, text) {
			t.Fatalf("16.1: First: %d %q, %v, not %d %q", x.Note, x.Data, ok, note, text)
		}
	}
	wantLen(t, q, ahead)
}

func wantPop(t *testing.T, q *queue.Queue, note int, text string) {
	t.Helper()
	ahead := q.Len()
	if x, ok := q.Pop(); !ok || !same(x, note, text) {
		t.Fatalf("16.1: Pop: %d %q, %v, not %d %q", x.Note, x.Data, ok, note, text)
	}
	wantLen(t, q, ahead-1)
}

// wantEmpty holds that there is none, and that nothing makes one of it.
func wantEmpty(t *testing.T, q *queue.Queue) {
	t.Helper()
	for range 2 {
		wantLen(t, q, 0)
		if x, ok := q.First(); ok || x.Note != 0 || x.Data != nil {
			t.Fatalf("16.1: First of none: %+v, %v", x, ok)
		}
		if x, ok := q.Pop(); ok || x.Note != 0 || x.Data != nil {
			t.Fatalf("16.1: Pop of none: %+v, %v", x, ok)
		}
		if n := q.Drop(0) + q.Drop() + q.Drop(-1, 0, 1, 5, 5); n != 0 {
			t.Fatalf("16.1: Drop of none: %d", n)
		}
	}
}

func wantDrop(t *testing.T, q *queue.Queue, gone int, notes ...int) {
	t.Helper()
	ahead := q.Len()
	if n := q.Drop(notes...); n != gone {
		t.Fatalf("16.1: Drop(%v): %d, not %d", notes, n, gone)
	}
	wantLen(t, q, ahead-gone)
}

// wantAll takes all that wait, each as First told it: just these, in order.
func wantAll(t *testing.T, q *queue.Queue, l ...queue.Item) {
	t.Helper()
	wantLen(t, q, len(l))
	for _, x := range l {
		wantFirst(t, q, x.Note, string(x.Data))
		wantPop(t, q, x.Note, string(x.Data))
	}
	wantEmpty(t, q)
}

// fresh is a queue of these.
func fresh(t *testing.T, l ...queue.Item) *queue.Queue {
	t.Helper()
	q := new(queue.Queue)
	wantPut(t, q, len(l), l...)
	return q
}

// dice is a row of numbers that look thrown, the same at each run.
type dice uint64

func (d *dice) below(n int) int {
	*d = *d*6364136223846793005 + 1442695040888963407
	return int(uint64(*d)>>33) % n
}

func (d *dice) from(l ...int) int { return l[d.below(len(l))] }

// ends are numbers at both ends of an int, and at both ends of what may be elsewhere.
func ends() []int {
	return []int{math.MinInt, math.MinInt + 1, math.MinInt / 4, -api.Most - 1, -api.Most, -1 << 32, -2, -1, 0, 1, 2, 1 << 31, 1 << 32, api.Most - 1, api.Most, api.Most + 1, math.MaxInt - 1, math.MaxInt}
}

// TestExample: 16.1, the chapter's example.
func TestExample(t *testing.T) {
	q := fresh(t, item(1, "a"), item(2, "b"))
	wantDrop(t, q, 1, 1)
	wantAll(t, q, item(2, "b"))
}

// TestBounds: 16.1, the numbers that the chapter names.
func TestBounds(t *testing.T) {
	if api.MaxQueue != full || api.MaxData-4 != most {
		t.Fatalf("16.1: MaxQueue %d, MaxData %d", api.MaxQueue, api.MaxData)
	}
}

// TestZero: 16.1, the zero Queue is empty, however it is made, and ready.
func TestZero(t *testing.T) {
	var q queue.Queue
	wantEmpty(t, &q)
	wantPut(t, &q, 0)
	wantEmpty(t, &q)
	wantPut(t, &q, 1, item(5, "abc"))
	wantAll(t, &q, item(5, "abc"))
	wantEmpty(t, new(queue.Queue))
	wantEmpty(t, &queue.Queue{})
	var end struct{ queue.Queue }
	wantEmpty(t, &end.Queue)
	if end.Put(item(5, "abc")) != 1 || end.Len() != 1 {
		t.Fatalf("16.1: Put into one that is embedded")
	}
}

// TestZeroDrop: 16.1, Drop of a zero Queue, of no note and of whatever note.
func TestZeroDrop(t *testing.T) {
	var q queue.Queue
	wantDrop(t, &q, 0)
	wantDrop(t, &q, 0, nil...)
	wantDrop(t, &q, 0, 0)
	wantDrop(t, &q, 0, 0, 0)
	wantDrop(t, &q, 0, ends()...)
	wantAll(t, &q)
}

// TestPut: 16.1, none, one, several, a list that is spread; each goes behind those that are there.
func TestPut(t *testing.T) {
	q := new(queue.Queue)
	wantPut(t, q, 0)
	wantPut(t, q, 0, nil...)
	wantPut(t, q, 0, []queue.Item{}...)
	wantPut(t, q, 1, item(7, "one"))
	wantPut(t, q, 0)
	wantPut(t, q, 3, item(3, "two"), item(9, "three"), item(-4, "four"))
	wantPut(t, q, 4, numbered(20, 4)...)
	wantPut(t, q, 1, numbered(30, 1)...)
	wantFirst(t, q, 7, "one")
	wantAll(t, q, item(7, "one"), item(3, "two"), item(9, "three"), item(-4, "four"),
		item(20, "20"), item(21, "21"), item(22, "22"), item(23, "23"), item(30, "30"))
}

// TestSameNote: 16.1, items of the same Note wait beside one another, each with its own bytes, the same ones as well.
func TestSameNote(t *testing.T) {
	l := []queue.Item{item(5, "a"), item(5, "b"), item(5, "a"), item(5, "a"), item(0, "a"), item(5, "c")}
	wantAll(t, fresh(t, l...), l...)
	q := fresh(t, l...)
	wantDrop(t, q, 5, 5)
	wantAll(t, q, item(0, "a"))
}

// TestAgain: 16.1, a queue that was emptied, by Pop or by Drop, is filled again; many times over.
func TestAgain(t *testing.T) {
	q := new(queue.Queue)
	for round := range 100 {
		l := numbered(round, 1+round%full)
		wantPut(t, q, len(l), l...)
		if round%3 != 0 {
			wantAll(t, q, l...)
			continue
		}
		var notes []int
		for _, x := range l {
			notes = append(notes, x.Note)
		}
		wantDrop(t, q, len(l), notes...)
		wantEmpty(t, q)
	}
	l := numbered(0, full)
	wantPut(t, q, full, l...)
	wantAll(t, q, l...)
}

// TestFull: 16.1, as long as there are fewer than MaxQueue: of each length of a list, behind each number of those that wait, the first ones go in.
func TestFull(t *testing.T) {
	for there := range full + 1 {
		for more := range 2*full + 3 {
			old, l := numbered(0, there), numbered(100, more)
			q := fresh(t, old...)
			put := min(more, full-there)
			wantPut(t, q, put, l...)
			if there+more >= full {
				wantPut(t, q, 0, item(-1, "no"))
				wantPut(t, q, 0, l...)
			}
			wantAll(t, q, append(old, l[:put]...)...)
		}
	}
}

// TestFullOneByOne: 16.1, in many calls as in one: one more and many more are not put, and change nothing.
func TestFullOneByOne(t *testing.T) {
	q, l := new(queue.Queue), numbered(40, full)
	for _, x := range l {
		wantPut(t, q, 1, x)
	}
	for range 3 {
		wantPut(t, q, 0, item(1, "x"))
		wantPut(t, q, 0, numbered(0, 1000)...)
		wantPut(t, q, 0)
		wantFirst(t, q, 40, "40")
	}
	wantAll(t, q, l...)
}

// TestRoom: 16.1, a Pop and a Drop make room for as many as they took, and for no more.
func TestRoom(t *testing.T) {
	l := numbered(0, full)
	q := fresh(t, l...)
	wantPop(t, q, 0, "0")
	wantPut(t, q, 1, item(50, "p"), item(51, "no"))
	wantDrop(t, q, 3, 5, 50, 31)
	wantPut(t, q, 3, item(60, "q"), item(61, "r"), item(62, "s"), item(63, "no"))
	wantPut(t, q, 0, item(64, "no"))
	wantDrop(t, q, 0, 0, 5, 50, 31, 51, 63, 64)
	wantPop(t, q, 1, "1")
	wantDrop(t, q, 1, 2)
	wantPut(t, q, 2, numbered(70, 9)...)
	want := slices.Concat(l[3:5], l[6:31], []queue.Item{item(60, "q"), item(61, "r"), item(62, "s"), item(70, "70"), item(71, "71")})
	wantAll(t, q, want...)
}

// TestLengths: 16.1, an item without bytes is left out, and one of more than MaxData less 4; each length between is put.
func TestLengths(t *testing.T) {
	for size := range 2*api.MaxPacket + 10 {
		x := queue.Item{Note: size, Data: bytes.Repeat([]byte{'x'}, size)}
		put, alone, behind := 0, []queue.Item{}, []queue.Item{item(1, "a")}
		if size >= 1 && size <= most {
			put, alone, behind = 1, append(alone, x), append(behind, x)
		}
		q := new(queue.Queue)
		wantPut(t, q, put, x)
		wantAll(t, q, alone...)
		wantPut(t, q, 1, item(1, "a"))
		wantPut(t, q, put, x)
		wantAll(t, q, behind...)
	}
	q := new(queue.Queue)
	wantPut(t, q, 0, queue.Item{})
	wantPut(t, q, 0, queue.Item{Note: 5, Data: nil})
	wantPut(t, q, 0, queue.Item{Note: 5, Data: []byte{}})
	wantPut(t, q, 0, queue.Item{Note: 5, Data: make([]byte, 0, 50)})
	wantPut(t, q, 0, item(5, strings.Repeat("x", 1<<20)))
	wantEmpty(t, q)
}

// TestBytes: 16.1, of an item's bytes each may be any; zero ones as well.
func TestBytes(t *testing.T) {
	for c := range 256 {
		q := new(queue.Queue)
		for _, n := range []int{1, 2, most} {
			l := []queue.Item{{Note: c, Data: bytes.Repeat([]byte{byte(c)}, n)}}
			wantPut(t, q, 1, l...)
			wantAll(t, q, l...)
		}
	}
	var all []byte
	for c := range most {
		all = append(all, byte(255-2*c))
	}
	wantAll(t, fresh(t, queue.Item{Note: 1, Data: all}), queue.Item{Note: 1, Data: all})
}

// wrong are items that are left out.
func wrong() []queue.Item {
	return []queue.Item{{Note: 1}, {Note: 1, Data: []byte{}}, item(1, strings.Repeat("w", most+1)), item(1, strings.Repeat("w", most+4)), item(1, strings.Repeat("w", most+5)), {Note: math.MaxInt, Data: make([]byte, 4096)}}
}

// TestLeftOut: 16.1, one that is left out stops none ahead of it or behind it, at whatever place it is; it doesn't count, and takes no room.
func TestLeftOut(t *testing.T) {
	for _, bad := range wrong() {
		for n := range 5 {
			for at := range n + 1 {
				l := numbered(10, n)
				q := fresh(t, item(1, "first"))
				wantPut(t, q, n, slices.Insert(slices.Clone(l), at, bad)...)
				wantAll(t, q, append([]queue.Item{item(1, "first")}, l...)...)
			}
		}
		l := []queue.Item{bad, item(2, "a"), bad, bad, item(3, "b"), bad}
		q := new(queue.Queue)
		wantPut(t, q, 2, l...)
		wantAll(t, q, item(2, "a"), item(3, "b"))
	}
	q := new(queue.Queue)
	wantPut(t, q, 0, wrong()...)
	wantEmpty(t, q)
}

// TestLeftOutFull: 16.1, among those that fill the queue ones that are left out take no room: just MaxQueue others go in; where it is full, they are left out as well.
func TestLeftOutFull(t *testing.T) {
	for _, bad := range wrong() {
		var l []queue.Item
		for _, x := range numbered(10, full) {
			l = append(l, bad, x, bad)
		}
		q := new(queue.Queue)
		wantPut(t, q, full, l...)
		for range 2 {
			wantPut(t, q, 0, bad)
			wantPut(t, q, 0, bad, item(2, "no"), bad)
		}
		wantAll(t, q, numbered(10, full)...)
		wantPut(t, q, full-1, numbered(10, full-1)...)
		wantPut(t, q, 1, bad, bad, item(3, "last"), bad, item(4, "no"))
		wantDrop(t, q, 0, 1, 4, math.MaxInt)
		wantAll(t, q, append(numbered(10, full-1), item(3, "last"))...)
		q = fresh(t, numbered(10, full)...)
		wantPop(t, q, 10, "10")
		wantPut(t, q, 1, bad, item(3, "last"), bad)
		wantAll(t, q, append(numbered(11, full-1), item(3, "last"))...)
	}
}

// TestFirst: 16.1, First takes nothing, however often it is asked; what is put behind changes it not, a Pop does.
func TestFirst(t *testing.T) {
	q := fresh(t, item(3, "c"), item(1, "a"))
	for k := range 40 {
		wantFirst(t, q, 3, "c")
		q.Put(item(k, "x"))
	}
	wantPop(t, q, 3, "c")
	wantFirst(t, q, 1, "a")
	wantPop(t, q, 1, "a")
	wantFirst(t, q, 0, "x")
	wantDrop(t, q, 1, 0)
	wantFirst(t, q, 1, "x")
}

// TestPop: 16.1, the first one each time, the last one, and then none; one that is put between goes behind all.
func TestPop(t *testing.T) {
	q := fresh(t, item(1, "a"))
	wantPop(t, q, 1, "a")
	wantEmpty(t, q)
	wantPut(t, q, 2, item(2, "b"), item(3, "c"))
	wantPop(t, q, 2, "b")
	wantPut(t, q, 1, item(4, "d"))
	wantPop(t, q, 3, "c")
	wantPut(t, q, 1, item(2, "e"))
	wantPop(t, q, 4, "d")
	wantPop(t, q, 2, "e")
	wantEmpty(t, q)
}

// TestDrop: 16.1, all whose Note is among them: of none, of one that is there once or several times, first, last or in the middle, of all, of one that isn't there, of one that is named twice.
func TestDrop(t *testing.T) {
	l := []queue.Item{item(1, "a"), item(2, "b"), item(3, "c"), item(2, "d"), item(4, "e"), item(2, "f"), item(5, "g")}
	for _, c := range []struct {
		notes []int
		left  string
	}{
		{nil, "abcdefg"},
		{[]int{}, "abcdefg"},
		{[]int{6}, "abcdefg"},
		{[]int{0}, "abcdefg"},
		{[]int{-1, -2, 99, math.MinInt, math.MaxInt}, "abcdefg"},
		{[]int{1}, "bcdefg"},
		{[]int{1, 1}, "bcdefg"},
		{[]int{5}, "abcdef"},
		{[]int{5, 5, 5}, "abcdef"},
		{[]int{3}, "abdefg"},
		{[]int{4, 9, 4}, "abcdfg"},
		{[]int{2}, "aceg"},
		{[]int{2, 2}, "aceg"},
		{[]int{9, 2}, "aceg"},
		{[]int{2, 9}, "aceg"},
		{[]int{1, 2}, "ceg"},
		{[]int{2, 1}, "ceg"},
		{[]int{5, 1}, "bcdef"},
		{[]int{1, 5}, "bcdef"},
		{[]int{3, 4, 5}, "abdf"},
		{[]int{1, 3, 4, 5}, "bdf"},
		{[]int{5, 4, 3, 1}, "bdf"},
		{[]int{1, 2, 3, 4}, "g"},
		{[]int{2, 3, 4, 5}, "a"},
		{[]int{5, 4, 3, 2, 1}, ""},
		{[]int{1, 2, 3, 4, 5}, ""},
		{[]int{7, 1, 2, 3, 4, 5, 6, 1, 2, 3, 4, 5}, ""},
	} {
		q := fresh(t, l...)
		wantDrop(t, q, len(l)-len(c.left), c.notes...)
		wantDrop(t, q, 0, c.notes...)
		var left []queue.Item
		for _, x := range l {
			if strings.Contains(c.left, string(x.Data)) {
				left = append(left, x)
			}
		}
		wantPut(t, q, 1, item(2, "z"))
		wantAll(t, q, append(left, item(2, "z"))...)
	}
}

// TestDropFull: 16.1, of a full queue: each one alone, all but each one, every other one, all by one Note, all by their Notes.
func TestDropFull(t *testing.T) {
	var notes []int
	for k := range full {
		notes = append(notes, k)
	}
	for k := range full {
		q := fresh(t, numbered(0, full)...)
		wantDrop(t, q, 1, k)
		wantAll(t, q, slices.Delete(numbered(0, full), k, k+1)...)
		q = fresh(t, numbered(0, full)...)
		wantDrop(t, q, full-1, slices.Delete(slices.Clone(notes), k, k+1)...)
		wantAll(t, q, item(k, strconv.Itoa(k)))
	}
	var l, odd []queue.Item
	for k := range full {
		l = append(l, item(k%2, strconv.Itoa(k)))
		if k%2 == 1 {
			odd = append(odd, l[k])
		}
	}
	q := fresh(t, l...)
	wantDrop(t, q, full/2, 0)
	wantPut(t, q, full/2, l...)
	wantDrop(t, q, full/4, 0)
	wantAll(t, q, append(odd, odd[:full/4]...)...)
	q = fresh(t, l...)
	wantDrop(t, q, full, 1, 0)
	wantEmpty(t, q)
	q = fresh(t, numbered(0, full)...)
	wantDrop(t, q, full, notes...)
	wantEmpty(t, q)
}

// TestManyNotes: 16.1, of far more notes than may wait: all of them count, the last one as the first.
func TestManyNotes(t *testing.T) {
	var notes []int
	for k := range 1 << 16 {
		notes = append(notes, k+1000)
	}
	q := fresh(t, item(999, "a"), item(1000, "b"), item(1000+1<<16-1, "c"), item(1000+1<<16, "d"), item(5000, "e"))
	wantDrop(t, q, 3, notes...)
	wantAll(t, q, item(999, "a"), item(1000+1<<16, "d"))
}

// TestOddNotes: 16.1, a Note is any number: each is dropped by just itself.
func TestOddNotes(t *testing.T) {
	l := ends()
	for at, note := range l {
		q := new(queue.Queue)
		var left []queue.Item
		for k, n := range l {
			x := item(n, strconv.Itoa(k))
			wantPut(t, q, 1, x)
			if k != at {
				left = append(left, x)
			}
		}
		wantDrop(t, q, 1, note, note)
		wantDrop(t, q, 0, note)
		wantAll(t, q, left...)
		q = fresh(t, item(note, "x"), item(note, "y"))
		wantDrop(t, q, 0, slices.Delete(slices.Clone(l), at, at+1)...)
		wantFirst(t, q, note, "x")
		wantPop(t, q, note, "x")
		wantDrop(t, q, 1, l...)
		wantEmpty(t, q)
	}
}

// TestPutKeepsNothing: R2, what was handed to Put is the user's: a list that was spread, its items and their bytes, changed afterwards, change nothing.
func TestPutKeepsNothing(t *testing.T) {
	data := [][]byte{[]byte("abc"), []byte("de"), bytes.Repeat([]byte("f"), most)}
	l := make([]queue.Item, 3, 9)
	for k := range l {
		l[k] = queue.Item{Note: k + 1, Data: data[k]}
	}
	q := fresh(t, l...)
	want := []queue.Item{item(1, "abc"), item(2, "de"), item(3, strings.Repeat("f", most))}
	for k := range l {
		for at := range data[k] {
			data[k][at] = 'z'
		}
		l[k] = item(9, "other")
	}
	_ = append(l, item(8, "behind"))
	wantFirst(t, q, 1, "abc")
	wantDrop(t, q, 0, 8, 9)
	wantAll(t, q, want...)

	one := []byte("one")
	wantPut(t, q, 3, queue.Item{Note: 1, Data: one}, queue.Item{Note: 2, Data: one[:2]}, queue.Item{Note: 3, Data: one[1:]})
	copy(one, "two")
	wantAll(t, q, item(1, "one"), item(2, "on"), item(3, "ne"))
}

// TestPutChangesNothing: R2, what is handed to Put, its spare room included, stays as it is, whatever is called later; items left out, and ones that found no room, as well.
func TestPutChangesNothing(t *testing.T) {
	data := []byte("abcdefgh")
	l := make([]queue.Item, 0, 80)
	for k := range 60 {
		l = append(l, queue.Item{Note: k % 7, Data: data[k%5 : k%5+k%4 : 7]})
	}
	spare := l[:cap(l)]
	for k := range spare[60:] {
		spare[60+k] = item(-k, "spare")
	}
	var ahead []queue.Item
	for _, x := range spare {
		ahead = append(ahead, queue.Item{Note: x.Note, Data: bytes.Clone(x.Data)})
	}
	q := new(queue.Queue)
	for range 3 {
		q.Put(l...)
		q.Drop(1, 3)
		x, _ := q.Pop()
		x.Data[0] = 'X'
		q.Put(l[20:]...)
		x, _ = q.First()
		x.Data[0] = 'X'
		q.Drop(0, 2)
	}
	for k, x := range spare {
		if x.Note != ahead[k].Note || !bytes.Equal(x.Data, ahead[k].Data) {
			t.Fatalf("R2: item %d is %d %q, not %d %q", k, x.Note, x.Data, ahead[k].Note, ahead[k].Data)
		}
	}
	if string(data) != "abcdefgh" {
		t.Fatalf("R2: the bytes that were handed in are %q", data)
	}
}

// spoil changes all bytes of an item that was answered, its spare room included, and what lies behind them.
func spoil(x queue.Item) {
	for k := range x.Data[:cap(x.Data)] {
		x.Data[:cap(x.Data)][k] = '!'
	}
	_ = append(x.Data[:0], "????"...)
}

// TestAnswersAreNew: R2, what First and Pop gave is the user's: changed, its spare room too, it changes nothing that is asked later; and what is asked later doesn't change it.
func TestAnswersAreNew(t *testing.T) {
	for size := 1; size <= most; size++ {
		a, b, c := item(1, strings.Repeat("a", size)), item(2, strings.Repeat("b", size)), item(3, strings.Repeat("c", size))
		q := fresh(t, a, b, c)
		for range 3 {
			x, _ := q.First()
			spoil(x)
			wantFirst(t, q, 1, string(a.Data))
		}
		first, _ := q.First()
		again, _ := q.First()
		spoil(again)
		pop, _ := q.Pop()
		if !same(first, 1, string(a.Data)) || !same(pop, 1, string(a.Data)) {
			t.Fatalf("R2: First %q, Pop %q, not %q", first.Data, pop.Data, a.Data)
		}
		spoil(first)
		if !same(pop, 1, string(a.Data)) {
			t.Fatalf("R2: Pop and First share: %q", pop.Data)
		}
		spoil(pop)
		wantFirst(t, q, 2, string(b.Data))
		kept, _ := q.Pop()
		wantPut(t, q, 2, a, b)
		wantDrop(t, q, 1, 3)
		q.Pop()
		if !same(kept, 2, string(b.Data)) {
			t.Fatalf("R2: what Pop gave became %q, not %q", kept.Data, b.Data)
		}
		spoil(kept)
		wantAll(t, q, b)
	}
}

// TestDropKeepsNothing: R2, notes that were spread into Drop are the user's: they stay as they are, their spare room too, and, changed afterwards, change nothing.
func TestDropKeepsNothing(t *testing.T) {
	notes := make([]int, 5, 9)
	copy(notes, []int{9, 2, 7, 2, 1})
	copy(notes[5:9], []int{4, 5, 6, 3})
	ahead := slices.Clone(notes[:9])
	q := fresh(t, numbered(0, 8)...)
	wantDrop(t, q, 3, notes...)
	if !slices.Equal(notes[:9], ahead) {
		t.Fatalf("R2: notes are %v, not %v", notes[:9], ahead)
	}
	for k := range notes[:9] {
		notes[:9][k] = 3
	}
	wantFirst(t, q, 0, "0")
	wantPut(t, q, 2, item(2, "b"), item(3, "c"))
	wantAll(t, q, item(0, "0"), item(3, "3"), item(4, "4"), item(5, "5"), item(6, "6"), item(2, "b"), item(3, "c"))
}

// TestApart: R7, two queues know nothing of one another, ones that the same items were put into as well; nor do a Queue and its copy.
func TestApart(t *testing.T) {
	l := numbered(0, 5)
	p, q := fresh(t, l...), fresh(t, l...)
	wantDrop(t, p, 2, 0, 3)
	wantPop(t, p, 1, "1")
	wantPut(t, p, 1, item(9, "p"))
	c := *q
	wantPop(t, &c, 0, "0")
	wantDrop(t, &c, 1, 2)
	wantPut(t, &c, 1, item(8, "c"))
	wantPut(t, q, 2, item(7, "q"), item(6, "r"))
	wantAll(t, p, item(2, "2"), item(4, "4"), item(9, "p"))
	wantAll(t, &c, item(1, "1"), item(3, "3"), item(4, "4"), item(8, "c"))
	wantAll(t, q, append(l, item(7, "q"), item(6, "r"))...)
}

// plain is a list of items as the chapter words it.
type plain struct {
	notes []int
	texts []string
}

func (p *plain) put(l []queue.Item) (put int) {
	for _, x := range l {
		switch {
		case len(p.notes) >= full, len(x.Data) == 0, len(x.Data) > most:
		default:
			p.notes, p.texts = append(p.notes, x.Note), append(p.texts, string(x.Data))
			put++
		}
	}
	return put
}

// first is none of none.
func (p *plain) first() (note int, text string, ok bool) {
	if len(p.notes) == 0 {
		return 0, "", false
	}
	return p.notes[0], p.texts[0], true
}

func (p *plain) pop() {
	if len(p.notes) > 0 {
		p.notes, p.texts = p.notes[1:], p.texts[1:]
	}
}

func (p *plain) drop(notes []int) (gone int) {
	var left plain
next:
	for k, note := range p.notes {
		for _, n := range notes {
			if n == note {
				gone++
				continue next
			}
		}
		left.notes, left.texts = append(left.notes, note), append(left.texts, p.texts[k])
	}
	*p = left
	return gone
}

// twin holds a queue against a plain one.
type twin struct {
	*testing.T
	q queue.Queue
	p plain
}

func (w *twin) same(what string) {
	if n := w.q.Len(); n != len(w.p.notes) {
		w.Fatalf("16.1: behind %s: Len %d, not %d", what, n, len(w.p.notes))
	}
	note, text, ok := w.p.first()
	x, got := w.q.First()
	if got != ok || !same(x, note, text) || x.Data != nil && !ok {
		w.Fatalf("16.1: behind %s: First %d %q, %v, not %d %q", what, x.Note, x.Data, got, note, text)
	}
}

func (w *twin) put(l ...queue.Item) {
	if n, want := w.q.Put(l...), w.p.put(l); n != want {
		w.Fatalf("16.1: Put of %d: %d, not %d", len(l), n, want)
	}
	w.same("Put")
}

func (w *twin) pop() {
	note, text, ok := w.p.first()
	x, got := w.q.Pop()
	if got != ok || !same(x, note, text) || x.Data != nil && !ok {
		w.Fatalf("16.1: Pop: %d %q, %v, not %d %q", x.Note, x.Data, got, note, text)
	}
	w.p.pop()
	w.same("Pop")
}

func (w *twin) drop(notes ...int) {
	if n, want := w.q.Drop(notes...), w.p.drop(notes); n != want {
		w.Fatalf("16.1: Drop(%v): %d, not %d", notes, n, want)
	}
	w.same("Drop")
}

// all takes what waits, up to none.
func (w *twin) all() {
	for range len(w.p.notes) + 2 {
		w.pop()
	}
}

// each looks at what waits by a copy, which is emptied.
func (w *twin) each() {
	c := *w
	c.all()
	w.same("a copy's Pops")
}

// step does one of a few calls, of which each row is tried. There are steps of them.
func (w *twin) step(k, number int, many []queue.Item) {
	text := strconv.Itoa(number)
	switch k {
	case 0:
		w.put(item(1, text))
	case 1:
		w.put(item(2, text))
	case 2:
		w.put(item(3, text), item(1, text+"b"))
	case 3:
		w.put(item(2, text), queue.Item{Note: 1}, item(3, text+"b"))
	case 4:
		w.put(many...)
	case 5:
		w.put()
		w.drop()
	case 6:
		w.pop()
	case 7:
		w.pop()
		w.pop()
	case 8:
		w.drop(1)
	case 9:
		w.drop(2)
	case 10:
		w.drop(3, 1)
	case 11:
		w.drop(4, 5, 4)
	}
}

const steps = 12

// TestRows: 16.1, every row of five calls.
func TestRows(t *testing.T) {
	var many []queue.Item
	for k := range full - 2 {
		many = append(many, item(4+k%3, strconv.Itoa(k)))
	}
	rows := steps * steps * steps * steps * steps
	for row := range rows {
		w := &twin{T: t}
		for k, n := 0, row; k < 5; k, n = k+1, n/steps {
			w.step(n%steps, k, many)
		}
		w.all()
	}
}

// TestSubsets: 16.1, each queue of up to six items with one of three Notes, and each choice of those Notes dropped from it.
func TestSubsets(t *testing.T) {
	lists := [][]int{{}, {0}, {1}, {2}, {0, 1}, {1, 0}, {0, 2}, {2, 1}, {0, 1, 2}, {2, 2, 0}, {3}, {3, 1}}
	for n := range 7 {
		rows := 1
		for range n {
			rows *= 3
		}
		for row := range rows {
			for _, notes := range lists {
				w := &twin{T: t}
				for k, rest := 0, row; k < n; k, rest = k+1, rest/3 {
					w.put(item(rest%3, strconv.Itoa(k)))
				}
				w.drop(notes...)
				w.put(item(1, "behind"))
				w.all()
			}
		}
	}
}

// some are items of a play: mostly few and right, at times many, of odd lengths, with odd Notes.
func some(d *dice) []queue.Item {
	var l []queue.Item
	for range d.from(0, 1, 1, 1, 2, 3, d.below(50)) {
		x := queue.Item{Note: d.below(9) - 1, Data: bytes.Repeat([]byte{byte(d.below(256))}, d.from(1, 1, 2, 5, most-1, most, most, 1+d.below(most)))}
		switch d.below(8) {
		case 0:
			x.Data = make([]byte, d.from(0, most+1, most+4, most+5, 200, 1000))
		case 1:
			x.Note = d.from(ends()...)
		}
		l = append(l, x)
	}
	return l
}

// call is one of a play.
func (w *twin) call(d *dice) {
	switch d.below(7) {
	case 0, 1, 2:
		w.put(some(d)...)
	case 3, 4:
		for range d.from(1, 1, 2, 5, d.below(20)) {
			w.pop()
		}
	case 5:
		var notes []int
		for range d.from(0, 1, 1, 1, 2, 3) {
			notes = append(notes, d.from(d.below(10)-1, d.from(ends()...)))
		}
		w.drop(notes...)
	case 6:
		w.each()
	}
}

// TestPlays: 16.1, long plays of all calls, held against a plain list.
func TestPlays(t *testing.T) {
	for seed := range 150 {
		d := dice(seed)
		w := &twin{T: t}
		for range 400 {
			w.call(&d)
		}
		w.all()
	}
}

// TestSame: R4, the same plays, run many times over, have the same answers, whatever First and Len are asked between.
func TestSame(t *testing.T) {
	play := func(seed int, ask bool) (said []byte) {
		d := dice(seed)
		q := new(queue.Queue)
		for range 150 {
			said = append(said, byte(q.Put(some(&d)...)))
			for range d.below(4) {
				x, ok := q.Pop()
				said = strconv.AppendInt(append(said, x.Data...), int64(x.Note), 10)
				said = strconv.AppendBool(said, ok)
			}
			said = append(said, byte(q.Drop(d.below(8), d.below(8))))
			if ask {
				q.First()
				q.Len()
				q.Put()
				q.Drop()
			}
		}
		return append(said, byte(q.Len()))
	}
	for seed := range 20 {
		first := play(seed, false)
		for k := range 20 {
			if !bytes.Equal(play(seed, k%2 == 0), first) {
				t.Fatalf("R4: play %d is another one", seed)
			}
		}
	}
}

// TestGoes: 16.1, what waits is what a Datagram carries: each item that is put goes as a frame, with room in it for what is laid beside its bytes.
func TestGoes(t *testing.T) {
	q := new(queue.Queue)
	for size := range api.MaxData + 2 {
		if q.Put(item(size, strings.Repeat("x", size))) == 0 {
			continue
		}
		x, _ := q.Pop()
		if n := frame.Size(api.Frame{Kind: api.Datagram, Note: x.Note, Data: x.Data}); n < size+1 || n > api.MaxData {
			t.Fatalf("16.1: a Datagram of %d bytes is laid in %d", size, n)
		}
	}
}

// held is how many bytes are in memory.
func held() uint64 {
	var m runtime.MemStats
	runtime.GC()
	runtime.ReadMemStats(&m)
	return m.HeapAlloc
}

// TestLetGo: what left a queue is kept no more, the last one neither, nor the memory that it was handed in, nor what was left out.
func TestLetGo(t *testing.T) {
	const queues = 2000
	ahead := held()
	all := make([]queue.Queue, queues)
	for k := range all {
		// What is put lies in a much greater piece of memory.
		big := make([]byte, 1<<14)
		all[k].Put(queue.Item{Data: big[100:148]}, queue.Item{Data: big})
	}
	own := held() - ahead
	if own > queues<<12 {
		t.Fatalf("R2: %d queues of one item each hold %d bytes", queues, own)
	}
	for k := range all {
		for range full {
			all[k].Put(item(k%2, strings.Repeat("x", most)))
		}
	}
	filled := held() - ahead
	for k := range all {
		if k%4 == 0 {
			all[k].Drop(0, 1)
			continue
		}
		for range full {
			all[k].Pop()
		}
	}
	if now := held() - ahead; now > own {
		t.Fatalf("%d queues held %d bytes, full ones %d, and empty ones %d", queues, own, filled, now)
	}
	runtime.KeepAlive(all)
}
