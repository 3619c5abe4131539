package wide_test

import (
	"bytes"
	"crypto/sha512"
	"encoding"
	"encoding/binary"
	"encoding/hex"
	"math"
	"math/big"
	"math/rand"
	"slices"
	"strings"
	"testing"

	"yashmak/api"
	"yashmak/wide"
)

// roomy is b with spare room behind it, that is filled: whoever reads or writes there is seen.
func roomy(b []byte) (part, whole []byte) {
	whole = append(bytes.Clone(b), bytes.Repeat([]byte{0xA5}, 256)...)
	return whole[:len(b)], whole
}

// scribble writes over all of a list, and over its spare room.
func scribble(b []byte) {
	b = b[:cap(b)]
	for i := range b {
		b[i] ^= 0xFF
	}
}

// text is one of so many bytes, no two of its blocks alike.
func text(many int) []byte {
	b := make([]byte, many)
	for i := range b {
		b[i] = byte(i*7 + i/128*31 + i/32768 + 3)
	}
	return b
}

// same tells whether two texts stand alike.
func same(g, h api.Hash512) bool {
	return g.State == h.State && bytes.Equal(g.Rest, h.Rest) && g.Many == h.Many
}

// otherMore is where Go's own sum stands, once it was made to stand where h stands and b was written to it.
func otherMore(t *testing.T, h api.Hash512, b []byte) api.Hash512 {
	t.Helper()
	stand := []byte("sha\x07")
	for _, x := range h.State {
		stand = binary.BigEndian.AppendUint64(stand, x)
	}
	stand = append(stand, h.Rest...)
	stand = append(stand, make([]byte, 128-len(h.Rest))...)
	stand = binary.BigEndian.AppendUint64(stand, h.Many)
	d := sha512.New()
	if err := d.(encoding.BinaryUnmarshaler).UnmarshalBinary(stand); err != nil {
		t.Fatal(err)
	}
	d.Write(b)
	stand, err := d.(encoding.BinaryMarshaler).MarshalBinary()
	if err != nil {
		t.Fatal(err)
	}
	var g api.Hash512
	for i := range g.State {
		g.State[i] = binary.BigEndian.Uint64(stand[4+8*i:])
	}
	g.Many = binary.BigEndian.Uint64(stand[len(stand)-8:])
	g.Rest = stand[68 : 68+g.Many%128]
	return g
}

// otherEnd is h's sum by Go's own blocks. Go's own end tells only 64 bits of a length, so it is put behind here.
func otherEnd(t *testing.T, h api.Hash512) [64]byte {
	t.Helper()
	end := []byte{128}
	for (len(h.Rest)+len(end))%128 != 112 {
		end = append(end, 0)
	}
	length := new(big.Int).Mul(new(big.Int).SetUint64(h.Many), big.NewInt(8))
	end = append(end, length.FillBytes(make([]byte, 16))...)
	g := otherMore(t, h, end)
	if len(g.Rest) != 0 {
		t.Fatalf("%d bytes are left over", len(g.Rest))
	}
	var x [64]byte
	for i, n := range g.State {
		binary.BigEndian.PutUint64(x[8*i:], n)
	}
	return x
}

// P3.1: the first State are the square roots' bits, and there is nothing else.
func TestBegin(t *testing.T) {
	h := wide.Begin()
	for i, p := range []int64{2, 3, 5, 7, 11, 13, 17, 19} {
		root := new(big.Int).Sqrt(new(big.Int).Lsh(big.NewInt(p), 128))
		if want := root.And(root, new(big.Int).SetUint64(math.MaxUint64)).Uint64(); h.State[i] != want {
			t.Errorf("%d: %016x, not %016x", i, h.State[i], want)
		}
	}
	if len(h.Rest) != 0 || h.Many != 0 {
		t.Errorf("%v, %d", h.Rest, h.Many)
	}
}

// P3.1: what a text changes of its own beginning, no other one sees.
func TestBeginAgain(t *testing.T) {
	want := wide.Begin().State
	h := wide.Begin()
	h.State[0]++
	scribble(h.Rest)
	if _, e := wide.More(wide.Begin(), text(400)); e != api.OK {
		t.Error(e)
	}
	if g := wide.Begin(); g.State != want || len(g.Rest) != 0 || g.Many != 0 {
		t.Errorf("%v", g)
	}
}

// P3.2: the sums that are published with the standard, and the chapter's example.
func TestSumKnown(t *testing.T) {
	for _, c := range []struct{ text, want string }{
		{"", "cf83e1357eefb8bdf1542850d66d8007d620e4050b5715dc83f4a921d36ce9ce47d0d13c5d85f2b0ff8318d2877eec2f63b931bd47417a81a538327af927da3e"},
		{"abc", "ddaf35a193617abacc417349ae20413112e6fa4e89a97ea20a9eeee64b55d39a2192992a274fc1a836ba3c23a3feebbd454d4423643ce80e2a9ac94fa54ca49f"},
		{"abcdbcdecdefdefgefghfghighijhijkijkljklmklmnlmnomnopnopq", "204a8fc6dda82f0a0ced7beb8e08a41657c16ef468b228a8279be331a703c33596fd15c13b1b07f9aa1d3bea57789ca031ad85c7a71dd70354ec631238ca3445"},
		{"abcdefghbcdefghicdefghijdefghijkefghijklfghijklmghijklmnhijklmnoijklmnopjklmnopqklmnopqrlmnopqrsmnopqrstnopqrstu", "8e959b75dae313da8cf4f72814fc143f8f7779c6eb9f7fa17299aeadb6889018501d289e4900f7e4331b99dec4b5433ac7d329eeb6dd26545e96e55b874be909"},
		{strings.Repeat("a", 1000000), "e718483d0ce769644e2e42c7bc15b4638e1f98b13b2044285632a803afa973ebde0ff244877ea60a4cb0432ce577c31beb009c5c2c49aa2e4eadb217ad8cc09b"},
	} {
		if x := wide.Sum([]byte(c.text)); hex.EncodeToString(x[:]) != c.want {
			t.Errorf("%.20q of %d: %x", c.text, len(c.text), x)
		}
	}
}

// P3.2: texts of every length, around 111, 112 and 128 too, hold against Go's own sum, and against End of More.
func TestSum(t *testing.T) {
	for many := range 1100 {
		b := text(many)
		h, e := wide.More(wide.Begin(), b)
		x, f := wide.End(h)
		if s := wide.Sum(b); s != sha512.Sum512(b) || s != x || e != api.OK || f != api.OK {
			t.Errorf("%d: %x, %x, %v, %v", many, s, x, e, f)
		}
	}
	for _, b := range [][]byte{make([]byte, 111), make([]byte, 112), bytes.Repeat([]byte{255}, 128), text(1 << 20), text(1<<20 + 77)} {
		if s := wide.Sum(b); s != sha512.Sum512(b) {
			t.Errorf("%d: %x", len(b), s)
		}
	}
	if wide.Sum(nil) != wide.Sum([]byte{}) {
		t.Error("nil is not as a text without bytes")
	}
}

// P3.2: each bit of a text counts.
func TestSumBits(t *testing.T) {
	b := text(258)
	seen := map[[64]byte]int{wide.Sum(b): -1}
	for i := range 8 * len(b) {
		b[i/8] ^= 1 << (i % 8)
		x := wide.Sum(b)
		if j, ok := seen[x]; ok {
			t.Errorf("bits %d and %d: one sum", i, j)
		}
		seen[x] = i
		b[i/8] ^= 1 << (i % 8)
	}
}

// P3.1: State, Rest and Many stand as those of Go's own sum, whatever there was ahead.
func TestMore(t *testing.T) {
	all := text(400)
	for ahead := range 260 {
		h, e := wide.More(wide.Begin(), all[:ahead])
		if want := otherMore(t, wide.Begin(), all[:ahead]); e != api.OK || !same(h, want) {
			t.Errorf("%d: %v, not %v; %v", ahead, h, want, e)
		}
		for many := range len(all) - ahead + 1 {
			g, e := wide.More(h, all[ahead:ahead+many])
			if e != api.OK || !same(g, otherMore(t, h, all[ahead:ahead+many])) || g.Many != uint64(ahead+many) || !bytes.Equal(g.Rest, all[(ahead+many)/128*128:ahead+many]) {
				t.Errorf("%d and %d: %v, %v", ahead, many, g, e)
			}
		}
	}
}

// P3.1: a text may be hand-made, of any State, and of any Many that Rest fits.
func TestHandMade(t *testing.T) {
	r := rand.New(rand.NewSource(2))
	for i := range 2000 {
		h := api.Hash512{Many: r.Uint64()}
		if i%4 == 0 {
			h.Many = uint64(r.Intn(600))
		}
		for j := range h.State {
			h.State[j] = r.Uint64()
		}
		h.Rest = make([]byte, h.Many%128)
		r.Read(h.Rest)
		b := make([]byte, r.Intn(400))
		r.Read(b)
		if x, e := wide.End(h); x != otherEnd(t, h) || e != api.OK {
			t.Errorf("%v: %x, %v", h, x, e)
		}
		g, e := wide.More(h, b)
		if !same(g, otherMore(t, h, b)) || e != api.OK {
			t.Errorf("%v and %d bytes: %v, %v", h, len(b), g, e)
		}
		if x, e := wide.End(g); x != otherEnd(t, g) || e != api.OK {
			t.Errorf("%v and %d bytes: %x, %v", h, len(b), x, e)
		}
	}
}

// P3.1: how many bytes there were goes round.
func TestManyGoesRound(t *testing.T) {
	full := api.Hash512{State: wide.Begin().State, Rest: text(127), Many: math.MaxUint64}
	for _, c := range []struct{ more, many int }{{0, -1}, {1, 0}, {2, 1}, {128, 127}, {129, 128}, {257, 256}} {
		h, e := wide.More(full, text(c.more))
		if e != api.OK || h.Many != uint64(c.many) || len(h.Rest) != int(h.Many%128) || h.State != otherMore(t, full, text(c.more)).State {
			t.Errorf("%d: Many %d, %d bytes left over, %v", c.more, h.Many, len(h.Rest), e)
		}
	}
}

// P3.1: eight times as many do not go round: each bit of Many counts at a text's end, those above 64 too.
func TestLengthWhole(t *testing.T) {
	seen := map[[64]byte]uint64{}
	manys := []uint64{0, math.MaxUint64 - 127, 1<<61 - 128, 7 << 61}
	for shift := 7; shift < 64; shift++ {
		manys = append(manys, 1<<shift)
	}
	for _, many := range manys {
		h := api.Hash512{State: wide.Begin().State, Many: many}
		x, e := wide.End(h)
		if before, ok := seen[x]; ok || x != otherEnd(t, h) || e != api.OK {
			t.Errorf("%x: %x, %v; as %x: %v", many, x, e, before, ok)
		}
		seen[x] = many
	}
}

// wrongTexts are those whose Rest is not what Many leaves over.
func wrongTexts() []api.Hash512 {
	state := wide.Begin().State
	return []api.Hash512{
		{Many: 1},
		{Rest: []byte{1}},
		{State: state, Many: 127},
		{State: state, Rest: text(127), Many: 126},
		{State: state, Rest: text(126), Many: 127},
		{State: state, Rest: text(1), Many: 128},
		{State: state, Rest: text(128)},
		{State: state, Rest: text(128), Many: 128},
		{State: state, Rest: text(128), Many: 256},
		{State: state, Rest: text(129), Many: 129},
		{State: state, Rest: text(129), Many: 1},
		{State: state, Rest: text(256), Many: 256},
		{State: state, Rest: text(300), Many: 300},
		{State: state, Rest: text(256), Many: 0},
		{State: state, Rest: text(257), Many: 1},
		{State: state, Many: 64},
		{State: state, Many: math.MaxUint64},
		{State: state, Rest: text(63), Many: math.MaxUint64},
		{State: state, Rest: text(126), Many: math.MaxUint64},
		{State: state, Rest: []byte{}, Many: 1<<32 + 1},
	}
}

// P3.1: More of what is no text is ErrArg, and that, in memory of its own; End of it ErrArg, and bytes 0.
func TestWrongTexts(t *testing.T) {
	for i, h := range wrongTexts() {
		if x, e := wide.End(h); x != ([64]byte{}) || e != api.ErrArg {
			t.Errorf("%d: %x, %v", i, x, e)
		}
		for _, b := range [][]byte{nil, {}, {1}, text(127), text(128), text(500)} {
			g, e := wide.More(h, b)
			if !same(g, h) || e != api.ErrArg {
				t.Errorf("%d, %d bytes: %v, %v", i, len(b), g, e)
			}
			scribble(g.Rest)
			if !same(h, wrongTexts()[i]) {
				t.Errorf("%d: Rest is shared", i)
			}
		}
	}
}

// P3.1: the least and the greatest Rest that may be.
func TestRestEdges(t *testing.T) {
	for _, many := range []uint64{0, 1, 63, 64, 111, 112, 113, 126, 127, 128, 129, 255, 256, 1 << 40, 1<<40 + 127} {
		h := api.Hash512{State: wide.Begin().State, Rest: text(int(many % 128)), Many: many}
		x, e := wide.End(h)
		if x != otherEnd(t, h) || e != api.OK {
			t.Errorf("%d: %x, %v", many, x, e)
		}
		if g, e := wide.More(h, nil); !same(g, h) || e != api.OK {
			t.Errorf("%d: %v, %v", many, g, e)
		}
	}
	if x, e := wide.End(api.Hash512{}); x != otherEnd(t, api.Hash512{}) || e != api.OK {
		t.Errorf("the empty one: %x, %v", x, e)
	}
}

// R4: neither Rest nor the bytes are changed or kept, their spare room included; what is answered is its own.
func TestMemory(t *testing.T) {
	for _, left := range []int{0, 1, 20, 111, 112, 127} {
		for _, many := range []int{0, 1, 16, 107, 108, 128, 200, 256, 600} {
			rest, restWhole := roomy(text(left))
			b, bWhole := roomy(text(many))
			restWas, bWas := bytes.Clone(restWhole), bytes.Clone(bWhole)
			h := api.Hash512{State: wide.Begin().State, Rest: rest, Many: uint64(left)}
			g, e := wide.More(h, b)
			x, f := wide.End(h)
			sum := wide.Sum(b)
			if !bytes.Equal(restWhole, restWas) || !bytes.Equal(bWhole, bWas) || e != api.OK || f != api.OK {
				t.Errorf("%d and %d: changed; %v, %v", left, many, e, f)
			}
			was := bytes.Clone(g.Rest)
			scribble(rest)
			scribble(b)
			if !bytes.Equal(g.Rest, was) {
				t.Errorf("%d and %d: kept", left, many)
			}
			copy(restWhole, restWas)
			copy(bWhole, bWas)
			scribble(g.Rest)
			if !bytes.Equal(restWhole, restWas) || !bytes.Equal(bWhole, bWas) {
				t.Errorf("%d and %d: shared", left, many)
			}
			if y, _ := wide.End(h); y != x || wide.Sum(b) != sum {
				t.Errorf("%d and %d: not the same again", left, many)
			}
		}
	}
}

// R4: a text that went on may go on otherwise: what comes of the one is not told by the other.
func TestFork(t *testing.T) {
	h, _ := wide.More(wide.Begin(), text(200))
	was := api.Hash512{State: h.State, Rest: bytes.Clone(h.Rest), Many: h.Many}
	a, _ := wide.More(h, []byte("a"))
	b, _ := wide.More(h, []byte("b"))
	x, _ := wide.End(a)
	y, _ := wide.End(b)
	if x != sha512.Sum512(append(text(200), 'a')) || y != sha512.Sum512(append(text(200), 'b')) || !same(h, was) {
		t.Errorf("%x, %x, %v", x, y, h)
	}
	scribble(a.Rest)
	if z, _ := wide.End(b); z != y {
		t.Errorf("%x, not %x", z, y)
	}
}

// P3.3: it does not matter in which parts a text comes, not even in Rest and Many.
func TestParts(t *testing.T) {
	r := rand.New(rand.NewSource(3))
	for range 500 {
		b := make([]byte, r.Intn(1400))
		r.Read(b)
		whole, _ := wide.More(wide.Begin(), b)
		h, rest := wide.Begin(), b
		var parts []int
		for len(rest) > 0 {
			many := min(len(rest), []int{0, 1, 7, 127, 128, 129, r.Intn(400)}[r.Intn(7)])
			var e api.Errno
			if h, e = wide.More(h, rest[:many]); e != api.OK {
				t.Fatalf("%v: %v", parts, e)
			}
			parts, rest = append(parts, many), rest[many:]
		}
		x, e := wide.End(h)
		if !same(h, whole) || x != wide.Sum(b) || x != sha512.Sum512(b) || e != api.OK {
			t.Errorf("%v: %x, %v", parts, x, e)
		}
	}
}

// P3.3: byte by byte.
func TestBytes(t *testing.T) {
	b := text(1000)
	h := wide.Begin()
	for i := range b {
		if x, e := wide.End(h); x != sha512.Sum512(b[:i]) || e != api.OK {
			t.Errorf("%d: %x, %v", i, x, e)
		}
		h, _ = wide.More(h, b[i:i+1])
	}
}

// R5: what is answered hangs on what is handed in alone, not on its spare room, nor on what was summed ahead.
func TestAgain(t *testing.T) {
	b := text(250)
	h := api.Hash512{State: wide.Begin().State, Rest: text(40), Many: 40}
	g, e := wide.More(h, b)
	x, f := wide.End(h)
	wide.Sum(text(99))
	h.Rest = slices.Grow(h.Rest, 1000)
	loose, _ := roomy(b)
	if k, l := wide.More(h, loose); !same(g, k) || e != l {
		t.Errorf("%v, %v", k, l)
	}
	if y, k := wide.End(h); y != x || f != k {
		t.Errorf("%x, %v", y, k)
	}
}
