package scalar_test

import (
	"math"
	"math/big"
	"math/rand"
	"testing"

	"yashmak/api"
	"yashmak/scalar"
)

const most = math.MaxUint64

// order is L, by Go's own numbers and the chapter's own digits.
var order = func() *big.Int {
	over, _ := new(big.Int).SetString("27742317777372353535851937790883648493", 10)
	return over.Add(over, new(big.Int).Lsh(big.NewInt(1), 252))
}()

// whole is the number that stands in four, be it below L or not.
func whole(a api.Sc) *big.Int {
	x := new(big.Int)
	for i := range a {
		x.Lsh(x, 64).Add(x, new(big.Int).SetUint64(a[3-i]))
	}
	return x
}

// written is a number as it is, in four of 64 bits; it is not below 0, and below 2^256.
func written(x *big.Int) api.Sc {
	var a api.Sc
	for i := range a {
		above := new(big.Int).Rsh(x, uint(64*i))
		a[i] = above.And(above, new(big.Int).SetUint64(most)).Uint64()
	}
	return a
}

// modulo is a number modulo L.
func modulo(x *big.Int) api.Sc { return written(new(big.Int).Mod(x, order)) }

// long are a number's sixty-four bytes, the lowest first.
func long(x *big.Int) [64]byte {
	var b [64]byte
	x.FillBytes(b[:])
	for i := range 32 {
		b[i], b[63-i] = b[63-i], b[i]
	}
	return b
}

// short are the lower thirty-two of them.
func short(x *big.Int) [32]byte {
	b := long(x)
	return [32]byte(b[:32])
}

// near are the numbers around one that are not below 0, and have no more than so many bits.
func near(middle *big.Int, size int) []*big.Int {
	var l []*big.Int
	for d := int64(-3); d <= 3; d++ {
		if x := new(big.Int).Add(middle, big.NewInt(d)); x.Sign() >= 0 && x.BitLen() <= size {
			l = append(l, x)
		}
	}
	return l
}

// edges are numbers of up to so many bits: around powers of 2, around products of L, and around L so shifted.
func edges(size int) []*big.Int {
	l := near(new(big.Int), size)
	for i := range size + 1 {
		if i > 250 || i%32 == 0 {
			l = append(l, near(new(big.Int).Lsh(big.NewInt(1), uint(i)), size)...)
		}
	}
	for n := range int64(18) {
		l = append(l, near(new(big.Int).Mul(order, big.NewInt(n)), size)...)
	}
	for i := 0; i+252 <= size; i += 4 {
		l = append(l, near(new(big.Int).Lsh(order, uint(i)), size)...)
	}
	return append(l, new(big.Int).Rsh(order, 1))
}

// some are the edges of 256 bits, and drawn numbers, some of whose four are 0, or as great as may be.
func some(many int) []api.Sc {
	r := rand.New(rand.NewSource(5))
	var l []api.Sc
	for _, x := range edges(256) {
		l = append(l, written(x))
	}
	for range many {
		var a api.Sc
		for i := range a {
			a[i] = []uint64{0, most, r.Uint64(), r.Uint64(), r.Uint64(), r.Uint64()}[r.Intn(6)]
		}
		l = append(l, a)
	}
	return l
}

// P5.1: sixty-four bytes are a number, the lowest first, all of them, modulo L.
func TestOf(t *testing.T) {
	l := edges(512)
	r := rand.New(rand.NewSource(6))
	for range 3000 {
		var b [64]byte
		r.Read(b[:])
		l = append(l, new(big.Int).SetBytes(b[r.Intn(40):]))
	}
	for i := range uint(512) {
		one := new(big.Int).Lsh(big.NewInt(1), i)
		l = append(l, one, new(big.Int).Mul(order, new(big.Int).Rsh(one, 253)))
	}
	l = append(l, new(big.Int).Sub(new(big.Int).Lsh(big.NewInt(1), 512), big.NewInt(1)))
	for _, x := range l {
		if a := scalar.Of(long(x)); a != modulo(x) {
			t.Errorf("%x: %x", x, a)
		}
	}
}

// P5.1: thirty-two bytes are a number, likewise, and Bytes gives them back if they are below L; Check tells whether they are.
func TestFrom(t *testing.T) {
	l := some(3000)
	for i := range uint(256) {
		l = append(l, written(new(big.Int).Lsh(big.NewInt(1), i)), written(new(big.Int).Xor(order, new(big.Int).Lsh(big.NewInt(1), i))))
	}
	for _, a := range l {
		x := whole(a)
		b, want := short(x), modulo(x)
		if got := scalar.From(b); got != want {
			t.Errorf("%x: %x", b, got)
		}
		if got := scalar.Bytes(a); got != short(whole(want)) || scalar.From(got) != want || !scalar.Check(got) {
			t.Errorf("%x: %x", a, got)
		}
		if is := x.Cmp(order) < 0; scalar.Check(b) != is || (scalar.Bytes(scalar.From(b)) == b) != is {
			t.Errorf("%x: %v", b, scalar.Check(b))
		}
	}
	var rising [32]byte
	for i := range rising {
		rising[i] = byte(i + 1)
	}
	rising[31] = 0
	a := api.Sc{0x0807060504030201, 0x100f0e0d0c0b0a09, 0x1817161514131211, 0x001f1e1d1c1b1a19}
	if scalar.From(rising) != a || scalar.Bytes(a) != rising {
		t.Errorf("%x", scalar.Bytes(a))
	}
}

// P5.1: L's bytes, and those around them.
func TestOrder(t *testing.T) {
	l := [32]byte{0xed, 0xd3, 0xf5, 0x5c, 0x1a, 0x63, 0x12, 0x58, 0xd6, 0x9c, 0xf7, 0xa2, 0xde, 0xf9, 0xde, 0x14, 31: 0x10}
	under, over, zero := l, l, [32]byte{}
	under[0]--
	over[0]++
	if l != short(order) || scalar.From(l) != (api.Sc{}) || scalar.Check(l) || scalar.Bytes(written(order)) != zero {
		t.Error("L")
	}
	if scalar.Bytes(scalar.From(under)) != under || !scalar.Check(under) || scalar.From(under) != scalar.Neg(api.Sc{1}) {
		t.Error("L less 1")
	}
	if scalar.From(over) != (api.Sc{1}) || scalar.Check(over) {
		t.Error("L and 1")
	}
	if scalar.From(zero) != (api.Sc{}) || !scalar.Check(zero) {
		t.Error("0")
	}
	for i := range l {
		more := l
		more[i]++
		if scalar.Check(more) {
			t.Errorf("%d: %x", i, more)
		}
	}
}

// P5.2: sums, products, and 0 less a number, of what may be handed in, below L or not.
func TestTwo(t *testing.T) {
	l := some(150)
	for _, a := range l {
		x := whole(a)
		if n := scalar.Neg(a); n != modulo(new(big.Int).Neg(x)) {
			t.Errorf("0 less %x: %x", a, n)
		}
		for _, b := range l {
			y := whole(b)
			if s := scalar.Add(a, b); s != modulo(new(big.Int).Add(x, y)) {
				t.Errorf("%x and %x, added: %x", a, b, s)
			}
			if p := scalar.Mul(a, b); p != modulo(new(big.Int).Mul(x, y)) {
				t.Errorf("%x times %x: %x", a, b, p)
			}
		}
	}
}

// P5.2: products that end just around 0, and around L, modulo L.
func TestNear(t *testing.T) {
	for _, a := range some(200) {
		x := new(big.Int).ModInverse(whole(a), order)
		if x == nil {
			continue
		}
		for d := int64(-2); d <= 2; d++ {
			want := modulo(big.NewInt(d))
			if p := scalar.Mul(a, modulo(new(big.Int).Mul(x, big.NewInt(d)))); p != want {
				t.Errorf("%x: %x, not %d", a, p, d)
			}
		}
	}
}

// P5.3: the order of what is added, and multiplied, does not matter; products of sums are sums of products.
func TestLaws(t *testing.T) {
	l := some(200)
	r := rand.New(rand.NewSource(7))
	for range 20000 {
		a, b, c := l[r.Intn(len(l))], l[r.Intn(len(l))], l[r.Intn(len(l))]
		for i, same := range []bool{
			scalar.Add(a, b) == scalar.Add(b, a),
			scalar.Mul(a, b) == scalar.Mul(b, a),
			scalar.Add(scalar.Add(a, b), c) == scalar.Add(a, scalar.Add(b, c)),
			scalar.Mul(scalar.Mul(a, b), c) == scalar.Mul(a, scalar.Mul(b, c)),
			scalar.Mul(a, scalar.Add(b, c)) == scalar.Add(scalar.Mul(a, b), scalar.Mul(a, c)),
			scalar.Add(a, scalar.Neg(a)) == api.Sc{},
			scalar.Bytes(scalar.Mul(a, api.Sc{1})) == scalar.Bytes(a),
			scalar.Neg(scalar.Neg(a)) == scalar.Add(a, api.Sc{}),
			scalar.Mul(scalar.Neg(a), b) == scalar.Neg(scalar.Mul(a, b)),
		} {
			if !same {
				t.Errorf("%d: %x, %x, %x", i, a, b, c)
			}
		}
	}
}

// R4, R5: what is handed in stays; what is answered hangs on it alone.
func TestAgain(t *testing.T) {
	a, b := api.Sc{most, 3, most, most}, api.Sc{5, most, 7, most}
	all := func() [5]api.Sc {
		return [5]api.Sc{scalar.Of([64]byte{5: 9, 63: 3}), scalar.From(scalar.Bytes(a)), scalar.Add(a, b), scalar.Mul(a, b), scalar.Neg(a)}
	}
	first := all()
	for _, c := range some(20) {
		scalar.Mul(c, a)
		scalar.Neg(scalar.Add(c, b))
	}
	if all() != first || a != (api.Sc{most, 3, most, most}) || b != (api.Sc{5, most, 7, most}) {
		t.Error("not the same again")
	}
}
