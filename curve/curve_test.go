package curve_test

import (
	"crypto/ed25519"
	"crypto/sha512"
	"math"
	"math/big"
	"math/rand"
	"slices"
	"testing"

	"yashmak/api"
	"yashmak/curve"
)

const most = math.MaxUint64

// By Go's own numbers, and the chapters' digits: P, L, D.
var (
	one   = big.NewInt(1)
	prime = new(big.Int).Sub(new(big.Int).Lsh(one, 255), big.NewInt(19))
	order = func() *big.Int {
		over, _ := new(big.Int).SetString("27742317777372353535851937790883648493", 10)
		return over.Add(over, new(big.Int).Lsh(one, 252))
	}()
	bend = quotient(big.NewInt(-121665), big.NewInt(121666))
)

// pair is a point by Go's own numbers, both below P.
type pair struct{ x, y *big.Int }

// none is the point that is none.
var none = pair{new(big.Int), one}

// mod is a number modulo P.
func mod(x *big.Int) *big.Int { return new(big.Int).Mod(x, prime) }

// times is a product of numbers modulo P.
func times(l ...*big.Int) *big.Int {
	x := one
	for _, y := range l {
		x = mod(new(big.Int).Mul(x, y))
	}
	return x
}

// plus and minus are a sum and a difference modulo P.
func plus(x, y *big.Int) *big.Int  { return mod(new(big.Int).Add(x, y)) }
func minus(x, y *big.Int) *big.Int { return mod(new(big.Int).Sub(x, y)) }

// quotient is x, divided by y, modulo P.
func quotient(x, y *big.Int) *big.Int { return times(x, new(big.Int).ModInverse(mod(y), prime)) }

// is tells whether a point is one of the curve.
func (p pair) is() bool {
	xx, yy := times(p.x, p.x), times(p.y, p.y)
	return minus(yy, xx).Cmp(plus(one, times(bend, xx, yy))) == 0
}

// add is a sum, as the chapter's words say it.
func (p pair) add(q pair) pair {
	n := times(bend, p.x, q.x, p.y, q.y)
	x := plus(times(p.x, q.y), times(p.y, q.x))
	y := plus(times(p.y, q.y), times(p.x, q.x))
	return pair{quotient(x, plus(one, n)), quotient(y, minus(one, n))}
}

// times is as many of a point, one added to the other.
func (p pair) times(k *big.Int) pair {
	sum := none
	for i := range k.BitLen() {
		sum = sum.add(sum)
		if k.Bit(k.BitLen()-1-i) == 1 {
			sum = sum.add(p)
		}
	}
	return sum
}

// whole is the number that stands in four, as it is.
func whole(a [4]uint64) *big.Int {
	x := new(big.Int)
	for i := range a {
		x.Lsh(x, 64).Add(x, new(big.Int).SetUint64(a[3-i]))
	}
	return x
}

// written is a number as it is, in four of 64 bits; it is not below 0, and below 2^256.
func written(x *big.Int) [4]uint64 {
	var a [4]uint64
	for i := range a {
		above := new(big.Int).Rsh(x, uint(64*i))
		a[i] = above.And(above, new(big.Int).SetUint64(most)).Uint64()
	}
	return a
}

// point is one as the program has it.
func (p pair) point() api.Point { return api.Point{X: written(p.x), Y: written(p.y)} }

// asTaken is the one of the curve that a point is taken as.
func asTaken(p api.Point) pair {
	q := pair{mod(whole(p.X)), mod(whole(p.Y))}
	if !q.is() {
		return none
	}
	return q
}

// forms are a point's, below P and not: P, and P twice and more, are put to both numbers where there is room.
func forms(p pair) []api.Point {
	var l []api.Point
	for i := range int64(4) {
		for j := range int64(4) {
			x := new(big.Int).Add(p.x, new(big.Int).Mul(prime, big.NewInt(i)))
			y := new(big.Int).Add(p.y, new(big.Int).Mul(prime, big.NewInt(j)))
			if x.BitLen() <= 256 && y.BitLen() <= 256 {
				l = append(l, pair{x, y}.point())
			}
		}
	}
	return l
}

// base is Base, by its words: Y is 4, divided by 5, and X is even.
func base() pair {
	p, _ := ofY(quotient(big.NewInt(4), big.NewInt(5)))
	return p
}

// ofY is the point of a Y whose X is even, if there is one.
func ofY(y *big.Int) (pair, bool) {
	yy := times(y, y)
	x := new(big.Int).ModSqrt(quotient(minus(yy, one), plus(one, times(bend, yy))), prime)
	if x == nil {
		return pair{}, false
	}
	if x.Bit(0) == 1 {
		x = minus(prime, x)
	}
	return pair{x, y}, true
}

// drawn are so many points of the curve, in its great group and out of it.
func drawn(r *rand.Rand, many int) []pair {
	var l []pair
	for len(l) < many {
		if p, is := ofY(new(big.Int).Rand(r, prime)); is {
			l = append(l, p)
		}
	}
	return l
}

// eighths are the eight points of which eight are Zero: L of a point are one of them.
func eighths() []pair {
	r := rand.New(rand.NewSource(8))
	for {
		p := drawn(r, 1)[0].times(order)
		l := []pair{none}
		for q := p; !same(q, none); q = q.add(p) {
			l = append(l, q)
		}
		if len(l) == 8 {
			return l
		}
	}
}

// same tells whether two points are one.
func same(p, q pair) bool { return p.x.Cmp(q.x) == 0 && p.y.Cmp(q.y) == 0 }

// good are points of the curve: Base and some of it, all of a small order, sums of both, and drawn ones.
func good() []pair {
	b, r := base(), rand.New(rand.NewSource(6))
	l := []pair{b, b.add(b), b.times(big.NewInt(77)), b.times(minus(order, one))}
	for _, e := range eighths() {
		l = append(l, e, e.add(b))
	}
	return append(l, drawn(r, 6)...)
}

// bad are points that are none of the curve.
func bad() []api.Point {
	b := base()
	l := []api.Point{{}, {X: api.Fe{1}}, {X: api.Fe{1}, Y: api.Fe{1}}, {Y: api.Fe{2}}, {X: api.Fe{most, most, most, most}, Y: api.Fe{most, most, most, most}}}
	l = append(l, pair{b.y, b.x}.point(), pair{b.x, plus(b.y, one)}.point(), pair{plus(b.x, one), b.y}.point(), pair{prime, prime}.point(), pair{b.x, new(big.Int)}.point(), pair{new(big.Int), b.y}.point())
	for i := range 256 {
		p, q := b.point(), b.point()
		p.X[i/64] ^= 1 << (i % 64)
		q.Y[i/64] ^= 1 << (i % 64)
		l = append(l, p, q)
	}
	return slices.DeleteFunc(l, func(p api.Point) bool { return pair{mod(whole(p.X)), mod(whole(p.Y))}.is() })
}

// some are points of both kinds, below P and not.
func some() []api.Point {
	var l []api.Point
	for i, p := range good() {
		f := forms(p)
		l = append(l, f[0], f[1+i%(len(f)-1)])
	}
	return append(l, bad()[:14]...)
}

// scalars are numbers around 0, around L and products of it, around powers of 2, and drawn ones, below L and not.
func scalars(many int) []*big.Int {
	var l []*big.Int
	put := func(x *big.Int) {
		for d := int64(-2); d <= 2; d++ {
			if y := new(big.Int).Add(x, big.NewInt(d)); y.Sign() >= 0 && y.BitLen() <= 256 {
				l = append(l, y)
			}
		}
	}
	for n := range int64(16) {
		put(new(big.Int).Mul(order, big.NewInt(n)))
	}
	for _, i := range []uint{3, 8, 63, 64, 128, 192, 251, 252, 253, 254, 255, 256} {
		put(new(big.Int).Lsh(one, i))
	}
	put(new(big.Int).Rsh(order, 1))
	r := rand.New(rand.NewSource(9))
	for range many {
		l = append(l, new(big.Int).Rand(r, new(big.Int).Lsh(one, 256)))
	}
	return l
}

// keyNumber is the number that a seed's key is, so many of Base.
func keyNumber(seed []byte) api.Sc {
	sum := sha512.Sum512(seed)
	sum[0] &= 248
	sum[31] = sum[31]&127 | 64
	number := slices.Clone(sum[:32])
	slices.Reverse(number)
	return written(new(big.Int).SetBytes(number))
}

// P6.1: Base and Zero.
func TestBase(t *testing.T) {
	b, zero := curve.Base(), curve.Zero()
	if b != base().point() || b.X[0]%2 == 1 || !base().is() {
		t.Errorf("%x", b)
	}
	if times(big.NewInt(5), whole(b.Y)).Cmp(big.NewInt(4)) != 0 {
		t.Errorf("Y is 4, divided by 5: %x", b.Y)
	}
	if zero != (api.Point{Y: api.Fe{1}}) || !curve.Check(zero) || !curve.Check(b) {
		t.Errorf("%x", zero)
	}
}

// P6.1: Check tells whether a point is one of the curve, with numbers below P or not.
func TestCheck(t *testing.T) {
	for _, p := range good() {
		if !p.is() {
			t.Fatalf("%x", p.point())
		}
		for _, form := range forms(p) {
			if !curve.Check(form) {
				t.Errorf("%x is one", form)
			}
		}
	}
	l := bad()
	if len(l) < 500 {
		t.Error(len(l))
	}
	for _, p := range l {
		if curve.Check(p) {
			t.Errorf("%x is none", p)
		}
	}
	r := rand.New(rand.NewSource(10))
	for range 2000 {
		p := api.Point{X: written(new(big.Int).Rand(r, new(big.Int).Lsh(one, 256))), Y: written(new(big.Int).Rand(r, new(big.Int).Lsh(one, 256)))}
		if curve.Check(p) {
			t.Errorf("%x is none", p)
		}
	}
}

// P6.1: two points are one modulo P; one that is none of the curve is Zero.
func TestSame(t *testing.T) {
	l := some()
	for _, p := range good() {
		for _, form := range forms(p) {
			if !curve.Same(form, p.point()) || !curve.Same(p.point(), form) {
				t.Errorf("%x: %x", p.point(), form)
			}
		}
	}
	for _, p := range l {
		for _, q := range l {
			if curve.Same(p, q) != same(asTaken(p), asTaken(q)) {
				t.Errorf("%x and %x: %v", p, q, curve.Same(p, q))
			}
		}
	}
	for _, p := range bad() {
		if !curve.Same(p, curve.Zero()) || !curve.Same(api.Point{}, p) || curve.Same(p, curve.Base()) {
			t.Errorf("%x is taken as Zero", p)
		}
	}
	opposite := base().times(new(big.Int).Sub(order, one)).point()
	if curve.Same(curve.Base(), opposite) || curve.Same(curve.Zero(), eighths()[4].point()) {
		t.Error("points of one Y, and of one X, are two")
	}
}

// P6.2: sums hold against the chapter's words, in Go's own numbers, and are below P.
func TestAdd(t *testing.T) {
	l := some()
	for _, p := range l {
		for _, q := range l {
			if s := curve.Add(p, q); s != asTaken(p).add(asTaken(q)).point() {
				t.Errorf("%x and %x: %x", p, q, s)
			}
		}
	}
	for _, p := range good() {
		for _, form := range forms(p) {
			if curve.Add(form, form) != p.add(p).point() || curve.Add(form, curve.Zero()) != p.point() || curve.Add(api.Point{}, form) != p.point() {
				t.Errorf("%x", form)
			}
		}
	}
}

// P6.2: Neg is 0 less X, and Y, below P; of one that is none it is Zero.
func TestNeg(t *testing.T) {
	for _, p := range good() {
		want := pair{mod(new(big.Int).Neg(p.x)), p.y}.point()
		for _, form := range forms(p) {
			if n := curve.Neg(form); n != want || curve.Add(form, n) != curve.Zero() {
				t.Errorf("%x: %x", form, n)
			}
		}
	}
	for _, p := range bad() {
		if n := curve.Neg(p); n != curve.Zero() {
			t.Errorf("%x: %x", p, n)
		}
	}
	if curve.Neg(curve.Zero()) != curve.Zero() {
		t.Error("Zero")
	}
}

// P6.3: so many of a point, one added to the other, one by one.
func TestMulSmall(t *testing.T) {
	for _, p := range some() {
		sum := none
		for k := range uint64(40) {
			if got := curve.Mul(api.Sc{k}, p); got != sum.point() {
				t.Errorf("%d of %x: %x", k, p, got)
			}
			sum = sum.add(asTaken(p))
		}
	}
}

// P6.3: k is taken modulo L, which tells on points out of the great group: L of them are not Zero, but Mul of L is.
func TestMul(t *testing.T) {
	l, points := scalars(12), append(good()[:6], drawn(rand.New(rand.NewSource(11)), 1)...)
	for i, k := range l {
		for _, p := range points[i%3:][:3] {
			got := curve.Mul(written(k), p.point())
			if got != p.times(new(big.Int).Mod(k, order)).point() {
				t.Errorf("%x of %x: %x", k, p.point(), got)
			}
		}
	}
	for _, e := range eighths() {
		for _, k := range l {
			rest := new(big.Int).Mod(new(big.Int).Mod(k, order), big.NewInt(8))
			if got := curve.Mul(written(k), e.point()); got != e.times(rest).point() {
				t.Errorf("%x of %x: %x", k, e.point(), got)
			}
		}
	}
}

// P6.3: each bit counts, and none stands for another.
func TestMulBits(t *testing.T) {
	power := base()
	for i := range 253 {
		k := api.Sc{}
		k[i/64] = 1 << (i % 64)
		want := power
		if i == 252 {
			want = base().times(new(big.Int).Mod(whole(k), order))
		}
		if got := curve.Mul(k, curve.Base()); got != want.point() {
			t.Errorf("bit %d: %x", i, got)
		}
		power = power.add(power)
	}
}

// P6.3: of 0, and of a point that is none, it is Zero; a point is taken modulo P.
func TestMulEdges(t *testing.T) {
	k := api.Sc{most, most, most, most}
	for _, p := range bad()[:40] {
		if curve.Mul(k, p) != curve.Zero() || curve.Clear(p) != curve.Zero() {
			t.Errorf("%x", p)
		}
	}
	for _, p := range good()[:8] {
		for _, form := range forms(p) {
			if curve.Mul(api.Sc{}, form) != curve.Zero() || curve.Mul(written(order), form) != curve.Zero() || curve.Mul(api.Sc{1}, form) != p.point() {
				t.Errorf("%x", form)
			}
			if curve.Mul(k, form) != curve.Mul(k, p.point()) {
				t.Errorf("%x is %x", form, p.point())
			}
		}
	}
}

// P6.3: eight of a point, which are Zero for eight points.
func TestClear(t *testing.T) {
	eight := big.NewInt(8)
	for _, p := range good() {
		for _, form := range forms(p) {
			if got := curve.Clear(form); got != p.times(eight).point() || got != curve.Mul(api.Sc{8}, form) {
				t.Errorf("%x: %x", form, got)
			}
		}
	}
	for _, e := range eighths() {
		if curve.Clear(e.point()) != curve.Zero() || curve.Clear(e.add(base()).point()) != curve.Clear(curve.Base()) {
			t.Errorf("%x", e.point())
		}
	}
}

// P6.3: keys of Go's own Ed25519 are so many of Base.
func TestKeys(t *testing.T) {
	r := rand.New(rand.NewSource(12))
	for range 20 {
		seed := make([]byte, ed25519.SeedSize)
		r.Read(seed)
		private := ed25519.NewKeyFromSeed(seed)
		want := slices.Clone(private.Public().(ed25519.PublicKey))
		p := curve.Mul(keyNumber(seed), curve.Base())
		if byte(p.X[0]&1) != want[31]>>7 {
			t.Errorf("%x: %x", seed, p.X)
		}
		want[31] &= 127
		slices.Reverse(want)
		if whole(p.Y).Cmp(new(big.Int).SetBytes(want)) != 0 {
			t.Errorf("%x: %x", seed, p.Y)
		}
	}
}

// P6.4: points are a group, whose none is Zero.
func TestGroup(t *testing.T) {
	var l []api.Point
	for _, p := range good() {
		l = append(l, p.point())
	}
	l = append(l, bad()[:3]...)
	r := rand.New(rand.NewSource(13))
	for range 1500 {
		p, q, s := l[r.Intn(len(l))], l[r.Intn(len(l))], l[r.Intn(len(l))]
		sum := curve.Add(p, q)
		for i, is := range []bool{
			curve.Check(sum),
			sum == curve.Add(q, p),
			curve.Add(sum, s) == curve.Add(p, curve.Add(q, s)),
			curve.Same(curve.Add(p, curve.Zero()), p),
			curve.Add(p, curve.Neg(p)) == curve.Zero(),
			curve.Same(curve.Neg(curve.Neg(p)), p),
			curve.Neg(sum) == curve.Add(curve.Neg(p), curve.Neg(q)),
			curve.Same(curve.Add(sum, curve.Neg(q)), p),
			curve.Clear(sum) == curve.Add(curve.Clear(p), curve.Clear(q)),
		} {
			if !is {
				t.Errorf("%d: %x, %x, %x", i, p, q, s)
			}
		}
	}
}

// P6.4: L of Base are Zero, and no smaller number of them but 0: L has no factors; and so it is of all eights of points.
func TestOrder(t *testing.T) {
	if !same(base().times(order), none) || !order.ProbablyPrime(20) {
		t.Fatal("L")
	}
	less := written(new(big.Int).Sub(order, one))
	if curve.Mul(written(order), curve.Base()) != curve.Zero() || curve.Add(curve.Mul(less, curve.Base()), curve.Base()) != curve.Zero() {
		t.Error("L of Base")
	}
	for _, p := range good() {
		if c := curve.Clear(p.point()); curve.Add(curve.Mul(less, c), c) != curve.Zero() {
			t.Errorf("L of %x", c)
		}
	}
	// Out of the great group L of a point are no Zero.
	e := eighths()[1].point()
	if curve.Add(curve.Mul(less, e), e) == curve.Zero() {
		t.Error("L of a point of an order of eight")
	}
}

// R4, R5: what is handed in stays; what is answered hangs on it alone.
func TestAgain(t *testing.T) {
	l, k := some(), api.Sc{most, 3, most, most}
	all := func(p, q api.Point) [6]api.Point {
		return [6]api.Point{curve.Base(), curve.Zero(), curve.Add(p, q), curve.Neg(p), curve.Mul(k, p), curve.Clear(q)}
	}
	p, q := l[1], l[len(l)-1]
	first := all(p, q)
	for _, s := range l {
		all(s, p)
	}
	if all(p, q) != first || p != some()[1] || q != some()[len(l)-1] || k != (api.Sc{most, 3, most, most}) {
		t.Error("not the same again")
	}
}
