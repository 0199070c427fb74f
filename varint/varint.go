// Package varint: numbers as bytes: see DOC.md, chapter 1.
package varint

import (
	"math/bits"

	"argosy/api"
)

func Size(n ...int) int {
	sum := 0
	for _, v := range n {
		w := width(v)
		if w == 0 {
			return -1
		}
		sum += w
	}
	return sum
}

func Put(b []byte, n ...int) []byte {
	size := Size(n...)
	if size < 0 {
		return nil
	}
	// Made anew even where b has spare room: two answers from one b must not share it.
	out := append(make([]byte, 0, len(b)+size), b...)
	for _, v := range n {
		out = lay(out, v)
	}
	return out
}

func Take(b []byte) (n int, rest []byte, e api.Errno) {
	n, w := read(b)
	if w == 0 {
		return 0, nil, api.ErrShort
	}
	return n, fresh(b[w:]), api.OK
}

func Takes(b []byte, count int) (l []int, rest []byte, e api.Errno) {
	// No number is shorter than a byte: a count that can't be met asks for no room.
	if count > len(b) {
		return nil, nil, api.ErrShort
	}
	if count > 0 {
		l = make([]int, 0, count)
	}
	for len(l) < count {
		n, w := read(b)
		if w == 0 {
			return nil, nil, api.ErrShort
		}
		l = append(l, n)
		b = b[w:]
	}
	return l, fresh(b), api.OK
}

// width is 0 for a number that may not be, as no number is laid in no bytes.
func width(n int) int {
	switch {
	case n < 0 || n > api.Most:
		return 0
	case n < 1<<6:
		return 1
	case n < 1<<14:
		return 2
	case n < 1<<30:
		return 4
	}
	return 8
}

// lay is for numbers that may be alone: Put has held them all against Size ahead of it.
func lay(b []byte, n int) []byte {
	w := width(n)
	mark := uint64(bits.TrailingZeros(uint(w)))
	laid := uint64(n) | mark<<(8*w-2)
	for i := w - 1; i >= 0; i-- {
		b = append(b, byte(laid>>(8*i)))
	}
	return b
}

// read tells by a width of 0 that the number is not all there; it copies nothing, so that Takes goes over b once.
func read(b []byte) (n, w int) {
	if len(b) == 0 {
		return 0, 0
	}
	w = 1 << (b[0] >> 6)
	if len(b) < w {
		return 0, 0
	}
	n = int(b[0] & 0x3f)
	for _, c := range b[1:w] {
		n = n<<8 | int(c)
	}
	return n, w
}

// fresh keeps what is answered from sharing memory with what was handed in.
func fresh(b []byte) []byte {
	return append(make([]byte, 0, len(b)), b...)
}
