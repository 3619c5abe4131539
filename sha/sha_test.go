package sha_test

import (
	"bytes"
	"crypto/sha256"
	"encoding"
	"encoding/binary"
	"encoding/hex"
	"math"
	"math/big"
	"math/rand"
	"slices"
	"strings"
	"testing"

	"yashmak/api"
	"yashmak/sha"
)

// roomy is b with spare room behind it, that is filled: whoever reads or writes there is seen.
func roomy(b []byte) (part, whole []byte) {
	whole = append(bytes.Clone(b), bytes.Repeat([]byte{0xA5}, 128)...)
	return whole[:len(b)], whole
}

// scribble writes over all of a list, and over its spare room.
func scribble(b []byte) {
	b = b[:cap(b)]
	for i := range b {
		b[i] ^= 0xFF
	}
}

// text is one of so many bytes, no two of its blocks alike.
func text(many int) []byte {
	b := make([]byte, many)
	for i := range b {
		b[i] = byte(i*7 + i/64*31 + i/16384 + 3)
	}
	return b
}

// same tells whether two texts stand alike.
func same(g, h api.Hash) bool {
	return g.State == h.State && bytes.Equal(g.Rest, h.Rest) && g.Many == h.Many
}

// other is Go's own sum, made to stand where h stands.
func other(t *testing.T, h api.Hash) *restored {
	t.Helper()
	b := []byte("sha\x03")
	for _, x := range h.State {
		b = binary.BigEndian.AppendUint32(b, x)
	}
	b = append(b, h.Rest...)
	b = append(b, make([]byte, 64-len(h.Rest))...)
	b = binary.BigEndian.AppendUint64(b, h.Many)
	d := sha256.New()
	if err := d.(encoding.BinaryUnmarshaler).UnmarshalBinary(b); err != nil {
		t.Fatal(err)
	}
	return &restored{d.Write, func() [32]byte { return [32]byte(d.Sum(nil)) }, d.(encoding.BinaryMarshaler).MarshalBinary}
}

// restored is what a test asks of Go's own sum.
type restored struct {
	write func([]byte) (int, error)
	sum   func() [32]byte
	bytes func() ([]byte, error)
}

// hash is where Go's own sum stands.
func (r *restored) hash(t *testing.T) api.Hash {
	t.Helper()
	b, err := r.bytes()
	if err != nil {
		t.Fatal(err)
	}
	var h api.Hash
	for i := range h.State {
		h.State[i] = binary.BigEndian.Uint32(b[4+4*i:])
	}
	h.Many = binary.BigEndian.Uint64(b[len(b)-8:])
	h.Rest = b[36 : 36+h.Many%64]
	return h
}

// P2.1: the first State are the square roots' bits, and there is nothing else.
func TestBegin(t *testing.T) {
	h := sha.Begin()
	for i, p := range []int64{2, 3, 5, 7, 11, 13, 17, 19} {
		root := new(big.Int).Sqrt(new(big.Int).Lsh(big.NewInt(p), 64))
		if want := uint32(root.Uint64()); h.State[i] != want {
			t.Errorf("%d: %08x, not %08x", i, h.State[i], want)
		}
	}
	if len(h.Rest) != 0 || h.Many != 0 {
		t.Errorf("%v, %d", h.Rest, h.Many)
	}
}

// P2.1: what a text changes of its own beginning, no other one sees.
func TestBeginAgain(t *testing.T) {
	want := sha.Begin().State
	h := sha.Begin()
	h.State[0]++
	scribble(h.Rest)
	if _, e := sha.More(sha.Begin(), text(200)); e != api.OK {
		t.Error(e)
	}
	if g := sha.Begin(); g.State != want || len(g.Rest) != 0 || g.Many != 0 {
		t.Errorf("%v", g)
	}
}

// P2.2: the sums that are published with the standard, and the chapter's example.
func TestSumKnown(t *testing.T) {
	for _, c := range []struct{ text, want string }{
		{"", "e3b0c44298fc1c149afbf4c8996fb92427ae41e4649b934ca495991b7852b855"},
		{"abc", "ba7816bf8f01cfea414140de5dae2223b00361a396177a9cb410ff61f20015ad"},
		{"abcdbcdecdefdefgefghfghighijhijkijkljklmklmnlmnomnopnopq", "248d6a61d20638b8e5c026930c3e6039a33ce45964ff2167f6ecedd419db06c1"},
		{"abcdefghbcdefghicdefghijdefghijkefghijklfghijklmghijklmnhijklmnoijklmnopjklmnopqklmnopqrlmnopqrsmnopqrstnopqrstu", "cf5b16a778af8380036ce59e7b0492370b249b11e8f07a51afac45037afee9d1"},
		{"\xbd", "68325720aabd7c82f30f554b313d0570c95accbb7dc4b5aae11204c08ffe732b"},
		{"\xc9\x8c\x8e\x55", "7abc22c0ae5af26ce93dbb94433a0e0b2e119d014f8e7f65bd56c61ccccd9504"},
		{strings.Repeat("\x00", 55), "02779466cdec163811d078815c633f21901413081449002f24aa3e80f0b88ef7"},
		{strings.Repeat("\x00", 56), "d4817aa5497628e7c77e6b606107042bbba3130888c5f47a375e6179be789fbb"},
		{strings.Repeat("\x00", 57), "65a16cb7861335d5ace3c60718b5052e44660726da4cd13bb745381b235a1785"},
		{strings.Repeat("\x00", 64), "f5a5fd42d16a20302798ef6ed309979b43003d2320d9f0e8ea9831a92759fb4b"},
		{strings.Repeat("a", 1000000), "cdc76e5c9914fb9281a1c7e284d73e67f1809a48a497200e046d39ccc7112cd0"},
	} {
		if x := sha.Sum([]byte(c.text)); hex.EncodeToString(x[:]) != c.want {
			t.Errorf("%.20q of %d: %x", c.text, len(c.text), x)
		}
	}
}

// P2.2: texts of all lengths up to some blocks, and some greater ones; no bytes may be nil.
func TestSumLengths(t *testing.T) {
	for many := range 400 {
		if b := text(many); sha.Sum(b) != sha256.Sum256(b) {
			t.Errorf("of %d bytes: %x", many, sha.Sum(b))
		}
	}
	for _, many := range []int{1023, 1024, 4095, 65535, 65536, 65537, 1<<20 + 1} {
		if b := text(many); sha.Sum(b) != sha256.Sum256(b) {
			t.Errorf("of %d bytes: %x", many, sha.Sum(b))
		}
	}
	if sha.Sum(nil) != sha.Sum([]byte{}) {
		t.Errorf("%x", sha.Sum(nil))
	}
}

// P2.2: each bit of a text counts.
func TestSumBits(t *testing.T) {
	b := text(130)
	seen := map[[32]byte]int{sha.Sum(b): -1}
	for i := range 8 * len(b) {
		b[i/8] ^= 1 << (i % 8)
		if j, ok := seen[sha.Sum(b)]; ok {
			t.Errorf("bits %d and %d: one sum", i, j)
		}
		seen[sha.Sum(b)] = i
		b[i/8] ^= 1 << (i % 8)
	}
}

// P2.1: State, Rest and Many stand as those of Go's own sum, whatever there was ahead.
func TestMore(t *testing.T) {
	all := text(200)
	for ahead := range 130 {
		h, e := sha.More(sha.Begin(), all[:ahead])
		if d := other(t, sha.Begin()); e != api.OK {
			t.Errorf("%d: %v", ahead, e)
		} else if d.write(all[:ahead]); !same(h, d.hash(t)) {
			t.Errorf("%d: %v, not %v", ahead, h, d.hash(t))
		}
		for many := range len(all) - ahead + 1 {
			g, e := sha.More(h, all[ahead:ahead+many])
			d := other(t, h)
			d.write(all[ahead : ahead+many])
			if e != api.OK || !same(g, d.hash(t)) || g.Many != uint64(ahead+many) || !bytes.Equal(g.Rest, all[(ahead+many)/64*64:ahead+many]) {
				t.Errorf("%d and %d: %v, %v", ahead, many, g, e)
			}
		}
	}
}

// P2.1: a text may be hand-made, of any State, and of any Many that Rest fits.
func TestHandMade(t *testing.T) {
	r := rand.New(rand.NewSource(2))
	for i := range 2000 {
		h := api.Hash{Many: r.Uint64()}
		if i%4 == 0 {
			h.Many = uint64(r.Intn(300))
		}
		for j := range h.State {
			h.State[j] = r.Uint32()
		}
		h.Rest = make([]byte, h.Many%64)
		r.Read(h.Rest)
		b := make([]byte, r.Intn(200))
		r.Read(b)
		d := other(t, h)
		if x, e := sha.End(h); x != d.sum() || e != api.OK {
			t.Errorf("%v: %x, %v", h, x, e)
		}
		d.write(b)
		g, e := sha.More(h, b)
		if !same(g, d.hash(t)) || e != api.OK {
			t.Errorf("%v and %d bytes: %v, %v", h, len(b), g, e)
		}
		if x, e := sha.End(g); x != d.sum() || e != api.OK {
			t.Errorf("%v and %d bytes: %x, %v", h, len(b), x, e)
		}
	}
}

// P2.1: how many bytes there were goes round, and so do eight times as many.
func TestManyGoesRound(t *testing.T) {
	full := api.Hash{State: sha.Begin().State, Rest: text(63), Many: math.MaxUint64}
	for _, c := range []struct{ more, many int }{{0, -1}, {1, 0}, {2, 1}, {64, 63}, {65, 64}, {129, 128}} {
		h, e := sha.More(full, text(c.more))
		if e != api.OK || h.Many != uint64(c.many) || len(h.Rest) != int(h.Many%64) {
			t.Errorf("%d: Many %d, %d bytes left over, %v", c.more, h.Many, len(h.Rest), e)
		}
	}
	empty, e := sha.End(sha.Begin())
	for _, shift := range []int{61, 62, 63} {
		if x, f := sha.End(api.Hash{State: sha.Begin().State, Many: 1 << shift}); x != empty || e != api.OK || f != api.OK {
			t.Errorf("1<<%d: %x, %v, %v", shift, x, e, f)
		}
	}
	if x, f := sha.End(api.Hash{State: sha.Begin().State, Many: 1 << 60}); x == empty || f != api.OK {
		t.Errorf("1<<60: %x, %v", x, f)
	}
}

// wrongTexts are those whose Rest is not what Many leaves over.
func wrongTexts() []api.Hash {
	state := sha.Begin().State
	return []api.Hash{
		{Many: 1},
		{Rest: []byte{1}},
		{State: state, Many: 63},
		{State: state, Rest: text(63), Many: 62},
		{State: state, Rest: text(62), Many: 63},
		{State: state, Rest: text(1), Many: 64},
		{State: state, Rest: text(64)},
		{State: state, Rest: text(64), Many: 64},
		{State: state, Rest: text(64), Many: 128},
		{State: state, Rest: text(65), Many: 65},
		{State: state, Rest: text(65), Many: 1},
		{State: state, Rest: text(128), Many: 128},
		{State: state, Rest: text(300), Many: 300},
		{State: state, Rest: text(256), Many: 0},
		{State: state, Rest: text(257), Many: 1},
		{State: state, Many: math.MaxUint64},
		{State: state, Rest: text(62), Many: math.MaxUint64},
		{State: state, Rest: []byte{}, Many: 1<<32 + 1},
	}
}

// P2.1: More of what is no text is ErrArg, and that, in memory of its own; End of it ErrArg, and bytes 0.
func TestWrongTexts(t *testing.T) {
	for i, h := range wrongTexts() {
		if x, e := sha.End(h); x != ([32]byte{}) || e != api.ErrArg {
			t.Errorf("%d: %x, %v", i, x, e)
		}
		for _, b := range [][]byte{nil, {}, {1}, text(63), text(64), text(500)} {
			g, e := sha.More(h, b)
			if !same(g, h) || e != api.ErrArg {
				t.Errorf("%d, %d bytes: %v, %v", i, len(b), g, e)
			}
			scribble(g.Rest)
			if !same(h, wrongTexts()[i]) {
				t.Errorf("%d: Rest is shared", i)
			}
		}
	}
}

// P2.1: the least and the greatest Rest that may be.
func TestRestEdges(t *testing.T) {
	for _, many := range []uint64{0, 1, 55, 56, 57, 62, 63, 64, 65, 127, 128, 1 << 40, 1<<40 + 63} {
		h := api.Hash{State: sha.Begin().State, Rest: text(int(many % 64)), Many: many}
		x, e := sha.End(h)
		if x != other(t, h).sum() || e != api.OK {
			t.Errorf("%d: %x, %v", many, x, e)
		}
		if g, e := sha.More(h, nil); !same(g, h) || e != api.OK {
			t.Errorf("%d: %v, %v", many, g, e)
		}
	}
	if x, e := sha.End(api.Hash{}); x != other(t, api.Hash{}).sum() || e != api.OK {
		t.Errorf("the empty one: %x, %v", x, e)
	}
}

// R4: neither Rest nor the bytes are changed or kept, their spare room included; what is answered is its own.
func TestMemory(t *testing.T) {
	for _, left := range []int{0, 1, 20, 55, 56, 63} {
		for _, many := range []int{0, 1, 8, 43, 44, 64, 100, 128, 300} {
			rest, restWhole := roomy(text(left))
			b, bWhole := roomy(text(many))
			restWas, bWas := bytes.Clone(restWhole), bytes.Clone(bWhole)
			h := api.Hash{State: sha.Begin().State, Rest: rest, Many: uint64(left)}
			g, e := sha.More(h, b)
			x, f := sha.End(h)
			sum := sha.Sum(b)
			if !bytes.Equal(restWhole, restWas) || !bytes.Equal(bWhole, bWas) || e != api.OK || f != api.OK {
				t.Errorf("%d and %d: changed; %v, %v", left, many, e, f)
			}
			was := bytes.Clone(g.Rest)
			scribble(rest)
			scribble(b)
			if !bytes.Equal(g.Rest, was) {
				t.Errorf("%d and %d: kept", left, many)
			}
			copy(restWhole, restWas)
			copy(bWhole, bWas)
			scribble(g.Rest)
			if !bytes.Equal(restWhole, restWas) || !bytes.Equal(bWhole, bWas) {
				t.Errorf("%d and %d: shared", left, many)
			}
			if y, _ := sha.End(h); y != x || sha.Sum(b) != sum {
				t.Errorf("%d and %d: not the same again", left, many)
			}
		}
	}
}

// R4: a text that went on may go on otherwise: what comes of the one is not told by the other.
func TestFork(t *testing.T) {
	h, _ := sha.More(sha.Begin(), text(100))
	was := api.Hash{State: h.State, Rest: bytes.Clone(h.Rest), Many: h.Many}
	a, _ := sha.More(h, []byte("a"))
	b, _ := sha.More(h, []byte("b"))
	x, _ := sha.End(a)
	y, _ := sha.End(b)
	if x != sha256.Sum256(append(text(100), 'a')) || y != sha256.Sum256(append(text(100), 'b')) || !same(h, was) {
		t.Errorf("%x, %x, %v", x, y, h)
	}
	scribble(a.Rest)
	if z, _ := sha.End(b); z != y {
		t.Errorf("%x, not %x", z, y)
	}
}

// P2.3: it does not matter in which parts a text comes, not even in Rest and Many.
func TestParts(t *testing.T) {
	r := rand.New(rand.NewSource(3))
	for range 500 {
		b := make([]byte, r.Intn(700))
		r.Read(b)
		whole, _ := sha.More(sha.Begin(), b)
		h, rest := sha.Begin(), b
		var parts []int
		for len(rest) > 0 {
			many := min(len(rest), []int{0, 1, 7, 63, 64, 65, r.Intn(200)}[r.Intn(7)])
			var e api.Errno
			if h, e = sha.More(h, rest[:many]); e != api.OK {
				t.Fatalf("%v: %v", parts, e)
			}
			parts, rest = append(parts, many), rest[many:]
		}
		x, e := sha.End(h)
		if !same(h, whole) || x != sha.Sum(b) || x != sha256.Sum256(b) || e != api.OK {
			t.Errorf("%v: %x, %v", parts, x, e)
		}
	}
}

// P2.3: byte by byte.
func TestBytes(t *testing.T) {
	b := text(1000)
	h := sha.Begin()
	for i := range b {
		if x, e := sha.End(h); x != sha256.Sum256(b[:i]) || e != api.OK {
			t.Errorf("%d: %x, %v", i, x, e)
		}
		h, _ = sha.More(h, b[i:i+1])
	}
}

// R5: what is answered hangs on what is handed in alone, not on its spare room, nor on what was summed ahead.
func TestAgain(t *testing.T) {
	b := text(150)
	h := api.Hash{State: sha.Begin().State, Rest: text(40), Many: 40}
	g, e := sha.More(h, b)
	x, f := sha.End(h)
	sha.Sum(text(99))
	h.Rest = slices.Grow(h.Rest, 1000)
	tight, _ := roomy(b)
	if k, l := sha.More(h, tight); !same(g, k) || e != l {
		t.Errorf("%v, %v", k, l)
	}
	if y, k := sha.End(h); y != x || f != k {
		t.Errorf("%x, %v", y, k)
	}
}
