// Package octet is layer 1: it writes numbers and texts as bytes, and tells bits: see shared/doc/01-octet.md.
package octet

import (
	"bytes"
	"iter"
	"slices"

	"yashmak/api"
)

// lengthSize is how many bytes tell how many a text has.
const lengthSize = 2

// Put appends a number in so many bytes, the highest first.
func Put(b []byte, n uint64, size int) ([]byte, api.Errno) {
	if !isSize(size) || n>>(8*size) != 0 {
		return nil, api.ErrOctet
	}
	// Not append to b: its spare room is the caller's.
	out := make([]byte, len(b), len(b)+size)
	copy(out, b)
	for shift := 8 * (size - 1); shift >= 0; shift -= 8 {
		out = append(out, byte(n>>shift))
	}
	return out, api.OK
}

// Take is the number that bytes begin with, and what is behind it.
func Take(b []byte, size int) (uint64, []byte, api.Errno) {
	if !isSize(size) || len(b) < size {
		return 0, nil, api.ErrOctet
	}
	return number(b[:size]), bytes.Clone(b[size:]), api.OK
}

// isSize tells whether a number may have so many bytes.
func isSize(size int) bool { return size >= 1 && size <= 8 }

// number is the number that at most eight bytes are. Unlike Take it copies nothing, so that many texts are gone through in one go.
func number(b []byte) uint64 {
	var n uint64
	for _, x := range b {
		n = n<<8 | uint64(x)
	}
	return n
}

// Text appends a text behind how many bytes it has, in two.
func Text(b []byte, t []byte) ([]byte, api.Errno) {
	length, e := Put(nil, uint64(len(t)), lengthSize)
	if e != api.OK {
		return nil, e
	}
	return slices.Concat(b, length, t), api.OK
}

// Texts are all the texts that bytes are, one behind the other.
func Texts(b []byte) ([][]byte, api.Errno) {
	var l [][]byte
	e := api.OK
reading:
	for t, whole := range texts(b) {
		if !whole {
			l, e = nil, api.ErrOctet
			break reading
		}
		// Each in memory of its own: t is a piece of b.
		l = append(l, bytes.Clone(t))
	}
	return l, e
}

// texts goes through the texts that b is made of, as pieces of b. Where b ends within one it gives none, and false, and nothing more.
func texts(b []byte) iter.Seq2[[]byte, bool] {
	return func(yield func([]byte, bool) bool) {
		for rest := b; len(rest) > 0; {
			t, behind, whole := cut(rest)
			if !yield(t, whole) || !whole {
				return
			}
			rest = behind
		}
	}
}

// cut parts bytes into the text that they begin with, and what is behind it; false, if they end ahead of its end.
func cut(b []byte) ([]byte, []byte, bool) {
	if len(b) < lengthSize {
		return nil, nil, false
	}
	end := lengthSize + int(number(b[:lengthSize]))
	if len(b) < end {
		return nil, nil, false
	}
	return b[lengthSize:end], b[end:], true
}

// Bit is one of thirty-two bytes' bits, the highest of the first byte first.
func Bit(k [32]byte, i int) int {
	if !isBit(i) {
		return 0
	}
	return int(k[i/8] >> (7 - i%8) & 1)
}

// Turn is thirty-two bytes with one bit turned.
func Turn(k [32]byte, i int) [32]byte {
	if isBit(i) {
		k[i/8] ^= 1 << (7 - i%8)
	}
	return k
}

// isBit tells whether thirty-two bytes have such a bit.
func isBit(i int) bool { return i >= 0 && i < api.Depth }

// Compare orders thirty-two bytes by the first one in which they differ.
func Compare(a, b [32]byte) int { return bytes.Compare(a[:], b[:]) }
