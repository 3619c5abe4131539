package octet_test

import (
	"bytes"
	"math"
	"math/rand"
	"strings"
	"testing"

	"yashmak/api"
	"yashmak/octet"
)

// roomy is b with spare room behind it, that is filled: whoever reads or writes there is seen.
func roomy(b []byte) (part, whole []byte) {
	whole = append(bytes.Clone(b), bytes.Repeat([]byte{0xA5}, 64)...)
	return whole[:len(b)], whole
}

// scribble writes over all of a list, and over its spare room.
func scribble(b []byte) {
	b = b[:cap(b)]
	for i := range b {
		b[i] ^= 0xFF
	}
}

// wrongSizes are those that no number has.
var wrongSizes = []int{0, -1, -8, 9, 10, 16, 64, math.MaxInt, math.MinInt, math.MinInt + 1, 1 << 32, 1<<32 + 1, 1<<61 + 1}

// P1.1: the chapter's example, and the bytes, the highest first.
func TestPut(t *testing.T) {
	for i, c := range []struct {
		b    []byte
		n    uint64
		size int
		want []byte
	}{
		{[]byte{7}, 258, 2, []byte{7, 1, 2}},
		{nil, 0, 1, []byte{0}},
		{[]byte{}, 255, 1, []byte{255}},
		{nil, 256, 2, []byte{1, 0}},
		{nil, 1, 3, []byte{0, 0, 1}},
		{[]byte{9, 8}, 0x01020304, 4, []byte{9, 8, 1, 2, 3, 4}},
		{nil, 0x0102030405, 5, []byte{1, 2, 3, 4, 5}},
		{nil, 0x010203040506, 6, []byte{1, 2, 3, 4, 5, 6}},
		{nil, 0x01020304050607, 7, []byte{1, 2, 3, 4, 5, 6, 7}},
		{nil, 0x0102030405060708, 8, []byte{1, 2, 3, 4, 5, 6, 7, 8}},
		{nil, 0xFFFEFDFCFBFAF9F8, 8, []byte{0xFF, 0xFE, 0xFD, 0xFC, 0xFB, 0xFA, 0xF9, 0xF8}},
		{nil, 0, 8, make([]byte, 8)},
		{nil, 258, 8, []byte{0, 0, 0, 0, 0, 0, 1, 2}},
	} {
		got, e := octet.Put(c.b, c.n, c.size)
		if !bytes.Equal(got, c.want) || e != api.OK {
			t.Errorf("%d: %v, %v", i, got, e)
		}
	}
}

// P1.1: the greatest number of each size goes in, one more does not.
func TestPutLimits(t *testing.T) {
	for size := 1; size <= 8; size++ {
		most := uint64(math.MaxUint64) >> (64 - 8*size)
		got, e := octet.Put([]byte{3}, most, size)
		if want := append([]byte{3}, bytes.Repeat([]byte{255}, size)...); !bytes.Equal(got, want) || e != api.OK {
			t.Errorf("%d: %v, %v", size, got, e)
		}
		if size == 8 {
			continue
		}
		for _, n := range []uint64{most + 1, most + 2, 2*most + 1, 1 << 63, math.MaxUint64} {
			if got, e := octet.Put([]byte{3}, n, size); len(got) != 0 || e != api.ErrOctet {
				t.Errorf("%d of %d: %v, %v", n, size, got, e)
			}
		}
	}
}

// P1.1: sizes that may not be, whatever the number.
func TestPutWrongSizes(t *testing.T) {
	for _, size := range wrongSizes {
		for _, n := range []uint64{0, 1, 255, math.MaxUint64} {
			for _, b := range [][]byte{nil, {}, {1, 2, 3}} {
				if got, e := octet.Put(b, n, size); len(got) != 0 || e != api.ErrOctet {
					t.Errorf("%d of %d: %v, %v", n, size, got, e)
				}
			}
		}
	}
}

// P1.1: the first bytes are the number, the others are behind it.
func TestTake(t *testing.T) {
	b := []byte{1, 2, 3, 4, 5, 6, 7, 8, 9, 10}
	for size, want := range []uint64{1: 1, 2: 0x0102, 3: 0x010203, 4: 0x01020304, 5: 0x0102030405, 6: 0x010203040506, 7: 0x01020304050607, 8: 0x0102030405060708} {
		if size == 0 {
			continue
		}
		n, rest, e := octet.Take(b, size)
		if n != want || !bytes.Equal(rest, b[size:]) || e != api.OK {
			t.Errorf("%d: %x, %v, %v", size, n, rest, e)
		}
		n, rest, e = octet.Take(b[:size], size)
		if n != want || len(rest) != 0 || e != api.OK {
			t.Errorf("%d, just so many: %x, %v, %v", size, n, rest, e)
		}
	}
	if n, rest, e := octet.Take(bytes.Repeat([]byte{255}, 9), 8); n != math.MaxUint64 || !bytes.Equal(rest, []byte{255}) || e != api.OK {
		t.Errorf("%x, %v, %v", n, rest, e)
	}
}

// P1.1: sizes that may not be, and bytes that are too few, though there is room behind them.
func TestTakeWrong(t *testing.T) {
	for _, size := range wrongSizes {
		for _, b := range [][]byte{nil, {}, {1}, make([]byte, 100)} {
			if n, rest, e := octet.Take(b, size); n != 0 || len(rest) != 0 || e != api.ErrOctet {
				t.Errorf("%d: %d, %v, %v", size, n, rest, e)
			}
		}
	}
	for size := 1; size <= 8; size++ {
		for many := 0; many < size; many++ {
			b, _ := roomy(bytes.Repeat([]byte{1}, many))
			if n, rest, e := octet.Take(b, size); n != 0 || len(rest) != 0 || e != api.ErrOctet {
				t.Errorf("%d of %d: %d, %v, %v", size, many, n, rest, e)
			}
		}
		if n, rest, e := octet.Take(nil, size); n != 0 || len(rest) != 0 || e != api.ErrOctet {
			t.Errorf("%d: %d, %v, %v", size, n, rest, e)
		}
	}
}

// P1.2: a text stands behind how many bytes it has.
func TestText(t *testing.T) {
	for i, c := range []struct{ b, text, want []byte }{
		{nil, nil, []byte{0, 0}},
		{[]byte{}, []byte{}, []byte{0, 0}},
		{[]byte{9}, nil, []byte{9, 0, 0}},
		{nil, []byte("ab"), []byte{0, 2, 'a', 'b'}},
		{[]byte{9, 9}, []byte{0, 0xFF, 0x80}, []byte{9, 9, 0, 3, 0, 0xFF, 0x80}},
	} {
		if got, e := octet.Text(c.b, c.text); !bytes.Equal(got, c.want) || e != api.OK {
			t.Errorf("%d: %v, %v", i, got, e)
		}
	}
	for many, want := range map[int][]byte{255: {0, 255}, 256: {1, 0}, 258: {1, 2}, 32768: {128, 0}, 65280: {255, 0}, 65534: {255, 254}, 65535: {255, 255}} {
		text := bytes.Repeat([]byte{6}, many)
		got, e := octet.Text([]byte{7}, text)
		if e != api.OK || !bytes.Equal(got, append(append([]byte{7}, want...), text...)) {
			t.Errorf("%d: %d bytes, %v", many, len(got), e)
		}
	}
}

// P1.2: texts that are too long; how many bytes stand ahead of them does not matter.
func TestTextLong(t *testing.T) {
	for _, many := range []int{65536, 65537, 65538, 131071, 131072, 1 << 20} {
		for _, b := range [][]byte{nil, {1, 2, 3}} {
			if got, e := octet.Text(b, make([]byte, many)); len(got) != 0 || e != api.ErrOctet {
				t.Errorf("%d: %d bytes, %v", many, len(got), e)
			}
		}
	}
	ahead := bytes.Repeat([]byte{5}, 70000)
	if got, e := octet.Text(ahead, []byte("x")); e != api.OK || !bytes.Equal(got, append(bytes.Clone(ahead), 0, 1, 'x')) {
		t.Errorf("%d bytes, %v", len(got), e)
	}
}

// sameTexts tells whether two lists have the same texts.
func sameTexts(a, b [][]byte) bool {
	if len(a) != len(b) {
		return false
	}
	for i := range a {
		if !bytes.Equal(a[i], b[i]) {
			return false
		}
	}
	return true
}

// P1.2: texts are read as they stand, one behind the other.
func TestTexts(t *testing.T) {
	long := bytes.Repeat([]byte{0, 1}, 32767)
	for i, c := range []struct {
		b    []byte
		want [][]byte
	}{
		{nil, nil},
		{[]byte{}, nil},
		{[]byte{0, 0}, [][]byte{{}}},
		{[]byte{0, 0, 0, 0, 0, 0}, [][]byte{{}, {}, {}}},
		{[]byte{0, 2, 'a', 'b', 0, 0, 0, 1, 'c'}, [][]byte{[]byte("ab"), {}, []byte("c")}},
		{append([]byte{255, 254}, long...), [][]byte{long}},
		{append(append([]byte{0, 1, 9, 255, 254}, long...), 0, 0), [][]byte{{9}, long, {}}},
		{append([]byte{1, 0}, make([]byte, 256)...), [][]byte{make([]byte, 256)}},
	} {
		if got, e := octet.Texts(c.b); !sameTexts(got, c.want) || e != api.OK {
			t.Errorf("%d: %d texts, %v", i, len(got), e)
		}
	}
	if got, e := octet.Texts(make([]byte, 1<<16)); len(got) != 1<<15 || e != api.OK {
		t.Errorf("%d texts, %v", len(got), e)
	}
}

// P1.2: bytes that end within a text, or within how many it has, wherever they do, and though there is room behind them.
func TestTextsCut(t *testing.T) {
	for i, c := range [][]byte{{0}, {5}, {0, 1}, {1, 0}, {255, 255}, {0, 1, 2, 0}, {0, 0, 0}, {0, 0, 0, 3, 1, 2}, {0, 2, 1}} {
		if l, e := octet.Texts(c); len(l) != 0 || e != api.ErrOctet {
			t.Errorf("%d: %v, %v", i, l, e)
		}
	}
	whole := []byte{0, 3, 1, 2, 3, 0, 0, 0, 1, 4, 0, 2, 5, 6}
	ends := map[int]int{0: 0, 5: 1, 7: 2, 10: 3, 14: 4}
	for n := range len(whole) + 1 {
		l, e := octet.Texts(whole[:n])
		if many, ok := ends[n]; ok && (len(l) != many || e != api.OK) || !ok && (len(l) != 0 || e != api.ErrOctet) {
			t.Errorf("%d: %v, %v", n, l, e)
		}
	}
	for _, text := range []int{255, 256, 65535} {
		b, _ := octet.Text(nil, make([]byte, text))
		if l, e := octet.Texts(b); len(l) != 1 || len(l[0]) != text || e != api.OK {
			t.Errorf("%d: %d texts, %v", text, len(l), e)
		}
		if l, e := octet.Texts(b[:len(b)-1]); len(l) != 0 || e != api.ErrOctet {
			t.Errorf("%d: %d texts, %v", text, len(l), e)
		}
	}
}

// wrongBits are those that thirty-two bytes do not have.
var wrongBits = []int{-1, -7, -8, -9, -255, -256, 256, 257, 263, 264, 512, math.MaxInt, math.MinInt, 1 << 32}

// P1.3: each bit has its own place, the highest of the first byte the first.
func TestBit(t *testing.T) {
	for i := range 256 {
		var one, others [32]byte
		one[i/8] = []byte{128, 64, 32, 16, 8, 4, 2, 1}[i%8]
		for j := range others {
			others[j] = ^one[j]
		}
		for j := range 256 {
			want := 0
			if i == j {
				want = 1
			}
			if octet.Bit(one, j) != want || octet.Bit(others, j) != 1-want {
				t.Errorf("bit %d, asked %d", i, j)
			}
		}
	}
	for _, k := range [][32]byte{{}, full()} {
		for _, i := range wrongBits {
			if octet.Bit(k, i) != 0 {
				t.Errorf("bit %d", i)
			}
		}
	}
}

// full are thirty-two bytes whose bits are all 1.
func full() [32]byte { return [32]byte(bytes.Repeat([]byte{255}, 32)) }

// P1.3: one bit turns, and turns back; no other, and none where there is none.
func TestTurn(t *testing.T) {
	mixed := [32]byte([]byte("0123456789abcdefghijklmnopqrstuv"))
	for _, k := range [][32]byte{{}, full(), mixed} {
		for i := range 256 {
			want := k
			want[i/8] ^= []byte{128, 64, 32, 16, 8, 4, 2, 1}[i%8]
			if got := octet.Turn(k, i); got != want || octet.Turn(got, i) != k || octet.Bit(got, i) == octet.Bit(k, i) {
				t.Errorf("turn %d: %x", i, got)
			}
		}
		for _, i := range wrongBits {
			if octet.Turn(k, i) != k {
				t.Errorf("turn %d", i)
			}
		}
	}
}

// P1.3: the first byte in which both differ orders them, whatever is behind it; bytes are 0 to 255.
func TestCompare(t *testing.T) {
	same := [32]byte([]byte("0123456789abcdefghijklmnopqrstuv"))
	if octet.Compare(same, same) != 0 || octet.Compare([32]byte{}, [32]byte{}) != 0 || octet.Compare(full(), full()) != 0 {
		t.Error("one is not as itself")
	}
	for at := range 32 {
		for _, c := range [][2]byte{{0, 1}, {0, 255}, {127, 128}, {1, 255}, {254, 255}, {64, 191}} {
			a, b := same, same
			a[at], b[at] = c[0], c[1]
			for behind := at + 1; behind < 32; behind++ {
				a[behind], b[behind] = 255, 0
			}
			if octet.Compare(a, b) != -1 || octet.Compare(b, a) != 1 {
				t.Errorf("byte %d, %v: %d, %d", at, c, octet.Compare(a, b), octet.Compare(b, a))
			}
		}
	}
}

// P1.4: numbers are read as they were written.
func TestNumbersBack(t *testing.T) {
	r := rand.New(rand.NewSource(1))
	for i := range 4000 {
		size := i%8 + 1
		n := r.Uint64() >> (64 - 8*size) >> r.Intn(8*size)
		ahead := make([]byte, r.Intn(3))
		b, e := octet.Put(ahead, n, size)
		if e != api.OK || len(b) != len(ahead)+size {
			t.Fatalf("%d of %d: %v, %v", n, size, b, e)
		}
		behind := []byte(strings.Repeat("z", r.Intn(3)))
		got, rest, e := octet.Take(append(b[len(ahead):], behind...), size)
		if got != n || !bytes.Equal(rest, behind) || e != api.OK {
			t.Fatalf("%d of %d: %d, %v, %v", n, size, got, rest, e)
		}
	}
}

// P1.4: texts are read as they were written.
func TestTextsBack(t *testing.T) {
	r := rand.New(rand.NewSource(2))
	for range 200 {
		var want [][]byte
		var b []byte
		for range r.Intn(8) {
			text := make([]byte, r.Intn([]int{1, 3, 300, 65536}[r.Intn(4)]))
			r.Read(text)
			want = append(want, text)
			var e api.Errno
			if b, e = octet.Text(b, text); e != api.OK {
				t.Fatalf("%d bytes: %v", len(text), e)
			}
		}
		if got, e := octet.Texts(b); !sameTexts(got, want) || e != api.OK {
			t.Fatalf("%d texts of %d, %v", len(got), len(want), e)
		}
	}
}

// P1.4: what comes first by Compare has a 0 at the first bit in which both differ.
func TestFirstBit(t *testing.T) {
	r := rand.New(rand.NewSource(3))
	for range 4000 {
		var a, b [32]byte
		r.Read(a[:])
		b = a
		for range r.Intn(4) {
			b = octet.Turn(b, r.Intn(256))
		}
		want := 0
		for i := range 256 {
			if x, y := octet.Bit(a, i), octet.Bit(b, i); x != y {
				want = x - y
				break
			}
		}
		if got := octet.Compare(a, b); got != want || octet.Compare(b, a) != -want {
			t.Fatalf("%x, %x: %d", a, b, got)
		}
	}
}

// Rules R4 and R5: what is handed in stays as it is, its spare room too, and what is answered shares none of it.
func TestPutMemory(t *testing.T) {
	for size := 1; size <= 8; size++ {
		for _, of := range [][]byte{{}, {1, 2, 3}} {
			b, whole := roomy(of)
			was := bytes.Clone(whole)
			got, _ := octet.Put(b, 1, size)
			if !bytes.Equal(whole, was) {
				t.Fatalf("%d: the argument is changed", size)
			}
			scribble(got)
			if !bytes.Equal(whole, was) {
				t.Fatalf("%d: the answer is the argument's memory", size)
			}
			again, _ := octet.Put(b, 1, size)
			keep := bytes.Clone(again)
			scribble(whole)
			if !bytes.Equal(again, keep) {
				t.Fatalf("%d: the answer changes with the argument", size)
			}
		}
	}
}

// R4: likewise, of Take.
func TestTakeMemory(t *testing.T) {
	for size := 1; size <= 8; size++ {
		for many := size; many < 12; many++ {
			b, whole := roomy([]byte("abcdefghijkl")[:many])
			was := bytes.Clone(whole)
			_, rest, _ := octet.Take(b, size)
			scribble(rest)
			if !bytes.Equal(whole, was) {
				t.Fatalf("%d of %d: the answer is the argument's memory", size, many)
			}
		}
	}
}

// R4: likewise, of Text: of neither argument.
func TestTextMemory(t *testing.T) {
	for _, text := range [][]byte{{}, []byte("text")} {
		for _, of := range [][]byte{{}, {1, 2, 3}} {
			b, whole := roomy(of)
			c, all := roomy(text)
			was, had := bytes.Clone(whole), bytes.Clone(all)
			got, _ := octet.Text(b, c)
			scribble(got)
			if !bytes.Equal(whole, was) || !bytes.Equal(all, had) {
				t.Fatalf("%v, %v: the arguments are changed", of, text)
			}
		}
	}
}

// R4: likewise, of Texts: and no text shares memory with another one, nor what is answered twice.
func TestTextsMemory(t *testing.T) {
	b, whole := roomy([]byte{0, 3, 'a', 'b', 'c', 0, 0, 0, 2, 'd', 'e', 0, 1, 'f'})
	was := bytes.Clone(whole)
	want := [][]byte{[]byte("abc"), {}, []byte("de"), []byte("f")}
	for i := range want {
		l, _ := octet.Texts(b)
		other, _ := octet.Texts(b)
		if !sameTexts(l, want) {
			t.Fatalf("%q", l)
		}
		scribble(l[i])
		l[i] = want[i]
		if !sameTexts(l, want) {
			t.Errorf("text %d shares memory with another one: %q", i, l)
		}
		if !sameTexts(other, want) {
			t.Errorf("text %d is that of another answer: %q", i, other)
		}
	}
	if !bytes.Equal(whole, was) {
		t.Error("the answer is the argument's memory")
	}
	l, _ := octet.Texts(b)
	scribble(whole)
	if !sameTexts(l, want) {
		t.Error("the answer changes with the argument")
	}
}

// R5: bytes in the spare room do not matter.
func TestSpareRoom(t *testing.T) {
	all := []byte{0, 1, 'a', 0, 1, 'b'}
	if l, e := octet.Texts(all[:3]); !sameTexts(l, [][]byte{[]byte("a")}) || e != api.OK {
		t.Errorf("%q, %v", l, e)
	}
	for _, n := range []int{1, 2, 4, 5} {
		if l, e := octet.Texts(all[:n]); len(l) != 0 || e != api.ErrOctet {
			t.Errorf("%d: %q, %v", n, l, e)
		}
	}
	if n, rest, e := octet.Take(all[:3], 2); n != 1 || !bytes.Equal(rest, []byte("a")) || e != api.OK {
		t.Errorf("%d, %q, %v", n, rest, e)
	}
}
