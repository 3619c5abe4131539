package field_test

import (
	"math"
	"math/big"
	"math/rand"
	"testing"

	"yashmak/api"
	"yashmak/field"
)

const most = math.MaxUint64

// prime is P, by Go's own numbers.
var prime = new(big.Int).Sub(new(big.Int).Lsh(big.NewInt(1), 255), big.NewInt(19))

// whole is the number that stands in an array, be it below P or not.
func whole(a api.Fe) *big.Int {
	x := new(big.Int)
	for i := range a {
		x.Lsh(x, 64).Add(x, new(big.Int).SetUint64(a[3-i]))
	}
	return x
}

// written is a number as it is, in four of 64 bits; it is not below 0, and below 2^256.
func written(x *big.Int) api.Fe {
	var a api.Fe
	for i := range a {
		above := new(big.Int).Rsh(x, uint(64*i))
		a[i] = above.And(above, new(big.Int).SetUint64(most)).Uint64()
	}
	return a
}

// modulo is a number modulo P.
func modulo(x *big.Int) api.Fe { return written(new(big.Int).Mod(x, prime)) }

// littleBytes are a number's, as it stands, the lowest first.
func littleBytes(a api.Fe) [32]byte {
	var b [32]byte
	whole(a).FillBytes(b[:])
	for i := range 16 {
		b[i], b[31-i] = b[31-i], b[i]
	}
	return b
}

// edges are numbers around 0, P, P twice, 2^255 and 2^256, around the ends of each of the four numbers, and some whose squares are known.
func edges() []api.Fe {
	var l []api.Fe
	top := new(big.Int).Lsh(big.NewInt(1), 256)
	put := func(x *big.Int) {
		if x.Sign() >= 0 && x.Cmp(top) < 0 {
			l = append(l, written(x))
		}
	}
	for _, middle := range []*big.Int{new(big.Int), prime, new(big.Int).Lsh(prime, 1), new(big.Int).Lsh(big.NewInt(1), 255), top} {
		for _, d := range []int64{-77, -39, -38, -37, -20, -19, -18, -3, -2, -1, 0, 1, 2, 3, 18, 19, 20, 37, 38, 39, 77} {
			put(new(big.Int).Add(middle, big.NewInt(d)))
		}
	}
	for _, shift := range []uint{63, 64, 127, 128, 191, 192, 254} {
		for _, d := range []int64{-1, 0, 1} {
			put(new(big.Int).Add(new(big.Int).Lsh(big.NewInt(1), shift), big.NewInt(d)))
		}
	}
	l = append(l, api.Fe{0, most}, api.Fe{0, 0, most}, api.Fe{0, 0, 0, most}, api.Fe{most, 0, most}, api.Fe{0, most, 0, most}, api.Fe{0, most, most, most}, api.Fe{most, most, most, most - 1})
	put(new(big.Int).Rsh(prime, 1))
	put(new(big.Int).Exp(big.NewInt(2), new(big.Int).Rsh(prime, 2), prime))
	return l
}

// some are the edges, and drawn numbers, some of whose four are 0, or as great as may be.
func some(many int) []api.Fe {
	r := rand.New(rand.NewSource(4))
	l := edges()
	for range many {
		var a api.Fe
		for i := range a {
			a[i] = []uint64{0, most, r.Uint64(), r.Uint64(), r.Uint64(), r.Uint64()}[r.Intn(6)]
		}
		l = append(l, a)
	}
	return l
}

// P4.1: thirty-two bytes are a number, the lowest first, all bits of them, modulo P.
func TestOf(t *testing.T) {
	for _, a := range some(2000) {
		b := littleBytes(a)
		if x := field.Of(b); x != modulo(whole(a)) {
			t.Errorf("%x: %x", b, x)
		}
	}
	for i := range 256 {
		var b [32]byte
		b[i/8] = 1 << (i % 8)
		if x := field.Of(b); x != modulo(new(big.Int).Lsh(big.NewInt(1), uint(i))) {
			t.Errorf("bit %d: %x", i, x)
		}
	}
	if x := field.Of([32]byte{31: 128}); x != (api.Fe{19}) {
		t.Errorf("2^255: %x", x)
	}
}

// P4.1: a number's bytes, the lowest first, modulo P.
func TestBytes(t *testing.T) {
	for _, a := range some(2000) {
		b := field.Bytes(a)
		if b != littleBytes(modulo(whole(a))) || field.Of(b) != modulo(whole(a)) {
			t.Errorf("%x: %x", a, b)
		}
	}
	want := [32]byte{}
	for i := range want {
		want[i] = byte(i + 1)
	}
	if b := field.Bytes(api.Fe{0x0807060504030201, 0x100f0e0d0c0b0a09, 0x1817161514131211, 0x201f1e1d1c1b1a19}); b != want || field.Of(want) != (api.Fe{0x0807060504030201, 0x100f0e0d0c0b0a09, 0x1817161514131211, 0x201f1e1d1c1b1a19}) {
		t.Errorf("%x", b)
	}
}

// P4.1: a small number is itself.
func TestSmall(t *testing.T) {
	for _, n := range []uint64{0, 1, 2, 18, 19, 20, 255, 256, 1 << 32, 1<<63 - 1, 1 << 63, most - 19, most - 18, most - 1, most} {
		if x := field.Small(n); x != (api.Fe{n}) {
			t.Errorf("%d: %x", n, x)
		}
	}
}

// P4.2: sums, differences and products of what may be handed in, below P or not, hold against Go's own numbers.
func TestTwo(t *testing.T) {
	l := some(150)
	for _, a := range l {
		for _, b := range l {
			x, y := whole(a), whole(b)
			if s := field.Add(a, b); s != modulo(new(big.Int).Add(x, y)) {
				t.Errorf("%x and %x, added: %x", a, b, s)
			}
			if d := field.Sub(a, b); d != modulo(new(big.Int).Sub(x, y)) {
				t.Errorf("%x less %x: %x", a, b, d)
			}
			if p := field.Mul(a, b); p != modulo(new(big.Int).Mul(x, y)) {
				t.Errorf("%x times %x: %x", a, b, p)
			}
		}
	}
}

// P4.2: products that end just around P, a bit at a time.
func TestBits(t *testing.T) {
	for i := range uint(256) {
		for j := range uint(256) {
			a, b := written(new(big.Int).Lsh(big.NewInt(1), i)), written(new(big.Int).Lsh(big.NewInt(1), j))
			if p := field.Mul(a, b); p != modulo(new(big.Int).Lsh(big.NewInt(1), i+j)) {
				t.Errorf("2^%d times 2^%d: %x", i, j, p)
			}
		}
	}
	// Each of these products is one of the numbers around P, or around P twice.
	for _, near := range edges() {
		for _, a := range []api.Fe{{2}, {3}, {most}, {19, 0, 0, 1 << 60}} {
			b := modulo(new(big.Int).Mul(whole(near), new(big.Int).ModInverse(whole(a), prime)))
			if p := field.Mul(a, b); p != modulo(whole(near)) {
				t.Errorf("%x times %x: %x", a, b, p)
			}
		}
	}
}

// P4.2: 0 less a number; and what it is multiplied by to be 1, which 0 has none of: it is 0.
func TestOne(t *testing.T) {
	less2 := new(big.Int).Sub(prime, big.NewInt(2))
	for _, a := range some(300) {
		x := whole(a)
		if n := field.Neg(a); n != modulo(new(big.Int).Neg(x)) {
			t.Errorf("0 less %x: %x", a, n)
		}
		want := api.Fe{1}
		if modulo(x) == (api.Fe{}) {
			want = api.Fe{}
		}
		if i := field.Inv(a); i != modulo(new(big.Int).Exp(x, less2, prime)) || field.Mul(i, a) != want {
			t.Errorf("1 divided by %x: %x", a, i)
		}
	}
}

// P4.3: two numbers are one modulo P, however they are handed in.
func TestSame(t *testing.T) {
	l := some(100)
	for i, a := range l {
		for j, b := range l {
			if field.Same(a, b) != (modulo(whole(a)) == modulo(whole(b))) {
				t.Errorf("%d and %d: %x and %x: %v", i, j, a, b, field.Same(a, b))
			}
		}
	}
	for i := range uint(256) {
		a := api.Fe{0x0123456789abcdef, 0x1032547698badcfe, 0x0f1e2d3c4b5a6978, 0x08192a3b4c5d6e7f}
		b := a
		b[i/64] ^= 1 << (i % 64)
		if field.Same(a, b) || field.Same(b, a) || !field.Same(b, b) {
			t.Errorf("bit %d", i)
		}
	}
	twice := written(new(big.Int).Lsh(prime, 1))
	if !field.Same(twice, api.Fe{}) || !field.Same(twice, written(prime)) || !field.Same(api.Fe{most, most, most, most}, api.Fe{37}) {
		t.Error("P, and P twice, are 0")
	}
}

// P4.3: a number is odd modulo P, not as it is handed in.
func TestOdd(t *testing.T) {
	for _, a := range some(2000) {
		if field.Odd(a) != (modulo(whole(a))[0]%2 == 1) {
			t.Errorf("%x: %v", a, field.Odd(a))
		}
	}
	if field.Odd(written(prime)) || field.Odd(api.Fe{}) || !field.Odd(api.Fe{most, most, most, most}) || field.Odd(field.Neg(api.Fe{1})) {
		t.Error("P is 0, and even")
	}
}

// holdRoot holds Root of two numbers against the chapter's words, and against Go's own sign of Jacobi.
func holdRoot(t *testing.T, u, v api.Fe) {
	t.Helper()
	x, is := field.Root(u, v)
	// u divided by v has a root just if u times v has one.
	both := new(big.Int).Mod(new(big.Int).Mul(whole(u), whole(v)), prime)
	want := big.Jacobi(both, prime) == 1 || modulo(whole(u)) == api.Fe{}
	if is != want {
		t.Errorf("%x by %x: %x, %v", u, v, x, is)
	}
	back := new(big.Int).Mul(whole(x), whole(x))
	if is && (x[0]%2 == 1 || whole(x).Cmp(prime) >= 0 || modulo(back.Mul(back, whole(v))) != modulo(whole(u))) {
		t.Errorf("%x by %x: %x", u, v, x)
	}
	if !is && x != (api.Fe{}) {
		t.Errorf("%x by %x: %x beside a false", u, v, x)
	}
	if (modulo(whole(u)) == api.Fe{} || modulo(whole(v)) == api.Fe{}) && x != (api.Fe{}) {
		t.Errorf("%x by %x: %x, where it is 0", u, v, x)
	}
}

// P4.3: the even root, where there is one, of all that may be handed in, below P or not.
func TestRoot(t *testing.T) {
	l := some(20)
	for _, u := range l {
		for _, v := range l {
			holdRoot(t, u, v)
		}
	}
}

// P4.3: each of the four kinds of numbers comes, and each of 0: with a root at once, with one by that of 0 less 1, and two without.
func TestRootKinds(t *testing.T) {
	p, twice := written(prime), written(new(big.Int).Lsh(prime, 1))
	minus := written(new(big.Int).Sub(prime, big.NewInt(1)))
	fourth := new(big.Int).Rsh(prime, 2)
	root := modulo(new(big.Int).Exp(big.NewInt(2), fourth, prime))
	if root[0]%2 == 1 {
		root = modulo(new(big.Int).Neg(whole(root)))
	}
	half := modulo(new(big.Int).Rsh(new(big.Int).Add(prime, big.NewInt(1)), 1))
	for i, c := range []struct {
		u, v, x api.Fe
		is      bool
	}{
		{api.Fe{}, api.Fe{}, api.Fe{}, true},
		{p, p, api.Fe{}, true},
		{twice, api.Fe{}, api.Fe{}, true},
		{api.Fe{}, twice, api.Fe{}, true},
		{api.Fe{}, api.Fe{1}, api.Fe{}, true},
		{p, api.Fe{2}, api.Fe{}, true},
		{twice, minus, api.Fe{}, true},
		{api.Fe{1}, api.Fe{}, api.Fe{}, false},
		{api.Fe{1}, p, api.Fe{}, false},
		{api.Fe{4}, twice, api.Fe{}, false},
		{minus, api.Fe{}, api.Fe{}, false},
		{api.Fe{1}, api.Fe{1}, minus, true},
		{minus, api.Fe{1}, root, true},
		{api.Fe{1}, minus, root, true},
		{minus, minus, minus, true},
		{api.Fe{2}, api.Fe{1}, api.Fe{}, false},
		{api.Fe{1}, api.Fe{2}, api.Fe{}, false},
		{modulo(big.NewInt(-2)), api.Fe{1}, api.Fe{}, false},
		{api.Fe{2}, api.Fe{2}, minus, true},
		{api.Fe{9}, api.Fe{1}, modulo(big.NewInt(-3)), true},
		{api.Fe{36}, api.Fe{9}, api.Fe{2}, true},
		{api.Fe{2}, api.Fe{8}, map[bool]api.Fe{true: modulo(new(big.Int).Neg(whole(half))), false: half}[half[0]%2 == 1], true},
		{api.Fe{most - 14, most, most, most >> 1}, api.Fe{1}, api.Fe{2}, true},
	} {
		if x, is := field.Root(c.u, c.v); x != c.x || is != c.is {
			t.Errorf("%d: %x by %x: %x, %v", i, c.u, c.v, x, is)
		}
	}
}

// P4.4: the numbers are a field.
func TestField(t *testing.T) {
	l := some(200)
	r := rand.New(rand.NewSource(5))
	for range 20000 {
		a, b, c := l[r.Intn(len(l))], l[r.Intn(len(l))], l[r.Intn(len(l))]
		for i, same := range []bool{
			field.Add(a, b) == field.Add(b, a),
			field.Mul(a, b) == field.Mul(b, a),
			field.Add(field.Add(a, b), c) == field.Add(a, field.Add(b, c)),
			field.Mul(field.Mul(a, b), c) == field.Mul(a, field.Mul(b, c)),
			field.Mul(a, field.Add(b, c)) == field.Add(field.Mul(a, b), field.Mul(a, c)),
			field.Same(field.Add(a, field.Small(0)), a),
			field.Same(field.Mul(a, field.Small(1)), a),
			field.Add(a, field.Neg(a)) == field.Small(0),
			field.Sub(a, b) == field.Add(a, field.Neg(b)),
			field.Same(field.Sub(field.Add(a, b), b), a),
		} {
			if !same {
				t.Errorf("%d: %x, %x, %x", i, a, b, c)
			}
		}
	}
	for _, a := range l {
		if i := field.Inv(a); !field.Same(a, api.Fe{}) && (field.Mul(a, i) != field.Small(1) || !field.Same(field.Inv(i), a)) {
			t.Errorf("%x: %x", a, i)
		}
	}
}

// P4.4: of the two roots of a number that is not 0 one is even, and that one is told, whichever was squared.
func TestTwoRoots(t *testing.T) {
	for _, a := range some(300) {
		if field.Same(a, api.Fe{}) {
			continue
		}
		minus := field.Neg(a)
		if field.Odd(a) == field.Odd(minus) || field.Mul(a, a) != field.Mul(minus, minus) {
			t.Errorf("%x and %x", a, minus)
		}
		even := a
		if field.Odd(a) {
			even = minus
		}
		for _, v := range []api.Fe{{1}, {2}, {3}, {most, most, most, most}, a, minus} {
			if x, is := field.Root(field.Mul(v, field.Mul(a, a)), v); !is || !field.Same(x, even) {
				t.Errorf("%x by %x: %x, %v, not %x", a, v, x, is, even)
			}
		}
	}
}

// R5: what is answered hangs on what is handed in alone.
func TestAgain(t *testing.T) {
	a, b := api.Fe{most, 3, most, most}, api.Fe{5, most, 7, most}
	all := func() [8]api.Fe {
		x, _ := field.Root(a, b)
		return [8]api.Fe{field.Of(field.Bytes(a)), field.Small(9), field.Add(a, b), field.Sub(a, b), field.Mul(a, b), field.Neg(a), field.Inv(a), x}
	}
	first := all()
	for _, c := range edges() {
		field.Root(c, a)
		field.Sub(c, b)
	}
	if all() != first || a != (api.Fe{most, 3, most, most}) || b != (api.Fe{5, most, 7, most}) {
		t.Error("not the same again")
	}
}
