package point_test

import (
	"crypto/ed25519"
	"crypto/sha512"
	"math"
	"math/big"
	"math/rand"
	"slices"
	"testing"

	"yashmak/api"
	"yashmak/curve"
	"yashmak/point"
)

const most = math.MaxUint64

// By Go's own numbers, and the chapters' digits: P, L, D.
var (
	one   = big.NewInt(1)
	prime = new(big.Int).Sub(new(big.Int).Lsh(one, 255), big.NewInt(19))
	order = func() *big.Int {
		over, _ := new(big.Int).SetString("27742317777372353535851937790883648493", 10)
		return over.Add(over, new(big.Int).Lsh(one, 252))
	}()
	bend = mod(new(big.Int).Mul(big.NewInt(-121665), new(big.Int).ModInverse(big.NewInt(121666), prime)))
)

// pair is a point of the curve by Go's own numbers, both below P.
type pair struct{ x, y *big.Int }

// mod is a number modulo P.
func mod(x *big.Int) *big.Int { return new(big.Int).Mod(x, prime) }

// plus is a number, and so much more.
func plus(x *big.Int, n int64) *big.Int { return new(big.Int).Add(x, big.NewInt(n)) }

// whole is the number that stands in four, as it is.
func whole(a [4]uint64) *big.Int {
	x := new(big.Int)
	for i := range a {
		x.Lsh(x, 64).Add(x, new(big.Int).SetUint64(a[3-i]))
	}
	return x
}

// written is a number as it is, in four of 64 bits; it is not below 0, and below 2^256.
func written(x *big.Int) [4]uint64 {
	var a [4]uint64
	for i := range a {
		above := new(big.Int).Rsh(x, uint(64*i))
		a[i] = above.And(above, new(big.Int).SetUint64(most)).Uint64()
	}
	return a
}

// lowFirst are a number's thirty-two bytes, the lowest first.
func lowFirst(x *big.Int) [32]byte {
	var b [32]byte
	x.FillBytes(b[:])
	slices.Reverse(b[:])
	return b
}

// marked are a Y's bytes, with the highest bit 1 as X is odd.
func marked(y *big.Int, odd bool) [32]byte {
	b := lowFirst(y)
	if odd {
		b[31] |= 128
	}
	return b
}

// point is one as the program has it.
func (p pair) point() api.Point { return api.Point{X: written(p.x), Y: written(p.y)} }

// bytes are a point's.
func (p pair) bytes() [32]byte { return marked(p.y, p.x.Bit(0) == 1) }

// ofY is the point of a Y below P, with an X that is odd, or even, if there is one.
func ofY(y *big.Int, odd bool) (pair, bool) {
	yy := mod(new(big.Int).Mul(y, y))
	under := mod(plus(new(big.Int).Mul(bend, yy), 1))
	square := new(big.Int).Mul(plus(yy, -1), new(big.Int).ModInverse(under, prime))
	x := new(big.Int).ModSqrt(mod(square), prime)
	if x == nil {
		return pair{}, false
	}
	if (x.Bit(0) == 1) != odd {
		x = mod(new(big.Int).Neg(x))
	}
	return pair{x, y}, (x.Bit(0) == 1) == odd
}

// read is the point that bytes are, by Go's own numbers, if they are one's.
func read(b [32]byte) (pair, bool) {
	odd := b[31] > 127
	b[31] &= 127
	slices.Reverse(b[:])
	y := new(big.Int).SetBytes(b[:])
	if y.Cmp(prime) >= 0 {
		return pair{}, false
	}
	return ofY(y, odd)
}

// as is a point of the program's in Go's own numbers.
func as(p api.Point) pair { return pair{mod(whole(p.X)), mod(whole(p.Y))} }

// drawn are so many points of the curve, in its great group and out of it.
func drawn(r *rand.Rand, many int) []pair {
	var l []pair
	for len(l) < many {
		if p, is := ofY(new(big.Int).Rand(r, prime), r.Intn(2) == 1); is {
			l = append(l, p)
		}
	}
	return l
}

// eighths are the eight points of which eight are Zero: L of a point are one of them.
func eighths() []pair {
	r, less := rand.New(rand.NewSource(8)), api.Sc(written(plus(order, -1)))
	for {
		p := drawn(r, 1)[0].point()
		p = curve.Add(curve.Mul(less, p), p)
		l := []pair{as(curve.Zero())}
		for q := p; q != curve.Zero(); q = curve.Add(q, p) {
			l = append(l, as(q))
		}
		if len(l) == 8 {
			return l
		}
	}
}

// good are points of the curve: some of Base, all of a small order, sums of both, drawn ones, and what is as much below none.
func good() []pair {
	b, r := curve.Base(), rand.New(rand.NewSource(6))
	l := drawn(r, 30)
	for k := range uint64(20) {
		l = append(l, as(curve.Mul(api.Sc{k + 1}, b)))
	}
	for i, e := range eighths() {
		if i > 0 {
			l = append(l, as(curve.Add(e.point(), b)))
		}
		l = append(l, e)
	}
	for _, p := range slices.Clone(l) {
		if p.x.Sign() != 0 {
			l = append(l, as(curve.Neg(p.point())))
		}
	}
	return l
}

// forms are a point's, below P and not: P, and P twice and more, are put to both numbers where there is room.
func forms(p pair) []api.Point {
	var l []api.Point
	for i := range int64(3) {
		for j := range int64(3) {
			x := new(big.Int).Add(p.x, new(big.Int).Mul(prime, big.NewInt(i)))
			y := new(big.Int).Add(p.y, new(big.Int).Mul(prime, big.NewInt(j)))
			if x.BitLen() <= 256 && y.BitLen() <= 256 {
				l = append(l, pair{x, y}.point())
			}
		}
	}
	return l
}

// bad are points that are none of the curve.
func bad() []api.Point {
	b := curve.Base()
	l := []api.Point{{}, {X: api.Fe{1}}, {X: api.Fe{1}, Y: api.Fe{1}}, {Y: api.Fe{2}}, {X: b.Y, Y: b.X}, {X: b.X}, {Y: b.Y}}
	l = append(l, api.Point{X: api.Fe{most, most, most, most}, Y: api.Fe{most, most, most, most}}, pair{prime, prime}.point())
	for i := range 256 {
		p, q := b, b
		p.X[i/64] ^= 1 << (i % 64)
		q.Y[i/64] ^= 1 << (i % 64)
		l = append(l, p, q)
	}
	return slices.DeleteFunc(l, curve.Check)
}

// texts are thirty-two bytes, of all kinds: of small Ys, of those around P and 2^255, with one bit otherwise than a point's, and drawn ones.
func texts() [][32]byte {
	var l [][32]byte
	both := func(y *big.Int) {
		if y.Sign() >= 0 && y.BitLen() <= 255 {
			l = append(l, marked(y, false), marked(y, true))
		}
	}
	for i := range int64(200) {
		both(big.NewInt(i))
		both(plus(prime, i-100))
	}
	for i := range uint(256) {
		for d := int64(-1); d <= 1; d++ {
			both(plus(new(big.Int).Lsh(one, i), d))
		}
	}
	for i, p := range append(eighths(), drawn(rand.New(rand.NewSource(5)), 3)...) {
		for j := i % 4; j < 256; j += 4 {
			b := p.bytes()
			b[j/8] ^= 1 << (j % 8)
			l = append(l, b)
		}
	}
	r := rand.New(rand.NewSource(7))
	for range 1000 {
		var b [32]byte
		r.Read(b[:])
		l = append(l, b)
	}
	return l
}

// P7.1: the bytes of Zero and Base, written out.
func TestEncodeKnown(t *testing.T) {
	base := [32]byte{0x58}
	for i := 1; i < 32; i++ {
		base[i] = 0x66
	}
	negative := base
	negative[31] = 0xe6
	for i, c := range []struct {
		p api.Point
		b [32]byte
	}{{curve.Zero(), [32]byte{1}}, {curve.Base(), base}, {curve.Neg(curve.Base()), negative}} {
		if got := point.Encode(c.p); got != c.b {
			t.Errorf("%d: %x", i, got)
		}
	}
}

// P7.1: Y, and whether X is odd, both modulo P: P more makes an even number an odd one, but is the same.
func TestEncode(t *testing.T) {
	odds, l := 0, good()
	for _, p := range l {
		odds += int(p.x.Bit(0))
		for _, form := range forms(p) {
			if got := point.Encode(form); got != p.bytes() {
				t.Errorf("%x: %x", form, got)
			}
		}
	}
	if odds < 20 || odds > len(l)-20 {
		t.Errorf("%d are odd", odds)
	}
}

// P7.1: one that is none is taken as Zero, whatever its numbers.
func TestEncodeNone(t *testing.T) {
	l := bad()
	if len(l) < 500 {
		t.Error(len(l))
	}
	for _, p := range l {
		if got := point.Encode(p); got != ([32]byte{1}) {
			t.Errorf("%x: %x", p, got)
		}
	}
}

// P7.2: bytes are a point, or none, as by Go's own numbers; beside an error stands Zero.
func TestDecode(t *testing.T) {
	points, l := 0, texts()
	for _, b := range l {
		p, e := point.Decode(b)
		want, is := read(b)
		switch {
		case !is:
			if e != api.ErrPoint || p != curve.Zero() {
				t.Errorf("%x: %x, %d", b, p, int(e))
			}
		case e != api.OK || p != want.point():
			t.Errorf("%x: %x, %d", b, p, int(e))
		default:
			points++
			if !curve.Check(p) || point.Encode(p) != b {
				t.Errorf("%x: %x", b, p)
			}
		}
	}
	if points < 500 || points > len(l)-500 {
		t.Errorf("%d are points", points)
	}
}

// P7.2: a Y from P on is none, though below P it would be a point's.
func TestDecodeGreat(t *testing.T) {
	points := 0
	for i := range int64(19) {
		for _, odd := range []bool{false, true} {
			if _, e := point.Decode(marked(big.NewInt(i), odd)); e == api.OK {
				points++
			}
			if p, e := point.Decode(marked(plus(prime, i), odd)); e != api.ErrPoint || p != curve.Zero() {
				t.Errorf("P and %d: %x, %d", i, p, int(e))
			}
		}
	}
	if points < 10 {
		t.Errorf("%d are points below P", points)
	}
}

// P7.2: an X of 0 is even.
func TestDecodeNoX(t *testing.T) {
	for _, y := range []*big.Int{one, plus(prime, -1)} {
		if p, e := point.Decode(marked(y, false)); e != api.OK || p != (api.Point{Y: written(y)}) {
			t.Errorf("%x: %x, %d", y, p, int(e))
		}
		if p, e := point.Decode(marked(y, true)); e != api.ErrPoint || p != curve.Zero() {
			t.Errorf("%x: %x, %d", y, p, int(e))
		}
	}
}

// P7.3: eight points have a small order, and those that are none, which are Zero.
func TestSmall(t *testing.T) {
	l := eighths()
	small := func(p api.Point) bool {
		return slices.ContainsFunc(l, func(e pair) bool { return e.point() == p })
	}
	many := 0
	for _, p := range good() {
		is := small(p.point())
		if is {
			many++
		}
		for _, form := range forms(p) {
			if point.Small(form) != is {
				t.Errorf("%x: %v", form, !is)
			}
		}
	}
	if many < 8 {
		t.Errorf("%d are small", many)
	}
	for _, p := range bad() {
		if !point.Small(p) {
			t.Errorf("%x is taken as Zero", p)
		}
	}
}

// P7.3: Times is so many of Base, one added to the other, modulo L.
func TestTimes(t *testing.T) {
	sum, back := curve.Zero(), curve.Zero()
	for k := range int64(40) {
		for _, p := range []*big.Int{big.NewInt(k), plus(order, k), plus(new(big.Int).Lsh(order, 3), k)} {
			if got := point.Times(written(p)); got != as(sum).bytes() {
				t.Errorf("%x: %x", p, got)
			}
		}
		if got := point.Times(written(plus(order, -k))); got != as(back).bytes() {
			t.Errorf("L less %d: %x", k, got)
		}
		sum, back = curve.Add(sum, curve.Base()), curve.Add(back, curve.Neg(curve.Base()))
	}
	if point.Times(api.Sc{}) != ([32]byte{1}) || point.Times(written(order)) != ([32]byte{1}) {
		t.Error("0 and L are Zero")
	}
	k := api.Sc{most, most, most, most}
	if got := point.Times(k); got != as(curve.Mul(k, curve.Base())).bytes() {
		t.Errorf("%x", got)
	}
}

// P7.2, P7.3: Go's own Ed25519 keys are so many of Base, in bytes, and are points of no small order.
func TestKeys(t *testing.T) {
	r := rand.New(rand.NewSource(12))
	for range 40 {
		seed := make([]byte, ed25519.SeedSize)
		r.Read(seed)
		sum := sha512.Sum512(seed)
		sum[0] &= 248
		sum[31] = sum[31]&127 | 64
		slices.Reverse(sum[:32])
		k := api.Sc(written(new(big.Int).SetBytes(sum[:32])))
		public := [32]byte(ed25519.NewKeyFromSeed(seed).Public().(ed25519.PublicKey))
		if got := point.Times(k); got != public {
			t.Errorf("%x: %x", seed, got)
		}
		if p, e := point.Decode(public); e != api.OK || p != curve.Mul(k, curve.Base()) || point.Small(p) {
			t.Errorf("%x: %x, %d", seed, p, int(e))
		}
	}
}

// P7.4: a point is read as it was written, whatever form it had; unlike points have unlike bytes.
func TestBack(t *testing.T) {
	l := good()
	for _, p := range l {
		for _, form := range forms(p) {
			if q, e := point.Decode(point.Encode(form)); e != api.OK || q != p.point() || !curve.Same(q, form) {
				t.Errorf("%x: %x, %d", form, q, int(e))
			}
		}
	}
	for _, p := range bad() {
		if q, e := point.Decode(point.Encode(p)); e != api.OK || q != curve.Zero() {
			t.Errorf("%x: %x, %d", p, q, int(e))
		}
	}
	for _, p := range l {
		for _, q := range l {
			if (point.Encode(p.point()) == point.Encode(q.point())) != curve.Same(p.point(), q.point()) {
				t.Errorf("%x, %x", p.point(), q.point())
			}
		}
	}
}

// R4, R5: what is handed in stays; what is answered hangs on it alone.
func TestAgain(t *testing.T) {
	type answers struct {
		b, c  [32]byte
		p     api.Point
		e     api.Errno
		small bool
	}
	all := func(b [32]byte, p api.Point, k api.Sc) answers {
		q, e := point.Decode(b)
		return answers{point.Encode(p), point.Times(k), q, e, point.Small(p)}
	}
	bytes, p, k := marked(plus(prime, -1), false), forms(eighths()[3])[1], api.Sc{most, 3, most, most}
	first := all(bytes, p, k)
	for i, b := range texts()[:200] {
		all(b, bad()[i], api.Sc{uint64(i)})
	}
	if all(bytes, p, k) != first || bytes != marked(plus(prime, -1), false) || p != forms(eighths()[3])[1] || k != (api.Sc{most, 3, most, most}) {
		t.Error("not the same again")
	}
}
