package sign_test

import (
	"bytes"
	"crypto/ed25519"
	"crypto/sha512"
	"encoding/hex"
	"math/big"
	"math/rand"
	"slices"
	"testing"

	"yashmak/api"
	"yashmak/curve"
	"yashmak/point"
	"yashmak/sign"
)

// By Go's own numbers, and the chapters' digits: P, L.
var (
	one   = big.NewInt(1)
	prime = new(big.Int).Sub(new(big.Int).Lsh(one, 255), big.NewInt(19))
	order = func() *big.Int {
		over, _ := new(big.Int).SetString("27742317777372353535851937790883648493", 10)
		return over.Add(over, new(big.Int).Lsh(one, 252))
	}()
)

// mod is a number modulo L.
func mod(x *big.Int) *big.Int { return new(big.Int).Mod(x, order) }

// plus is a number, and so much more.
func plus(x *big.Int, n int64) *big.Int { return new(big.Int).Add(x, big.NewInt(n)) }

// read is the number that bytes are, the lowest first.
func read(b []byte) *big.Int {
	b = slices.Clone(b)
	slices.Reverse(b)
	return new(big.Int).SetBytes(b)
}

// lowFirst are a number's thirty-two bytes, the lowest first; it is not below 0, and below 2^256.
func lowFirst(x *big.Int) [32]byte {
	var b [32]byte
	x.FillBytes(b[:])
	slices.Reverse(b[:])
	return b
}

// scalarOf is a number as the program has it, as it is.
func scalarOf(x *big.Int) api.Sc {
	var a api.Sc
	for i, b := range lowFirst(x) {
		a[i/8] |= uint64(b) << (8 * (i % 8))
	}
	return a
}

// unhex are the bytes that a text tells.
func unhex(s string) []byte {
	b, e := hex.DecodeString(s)
	if e != nil {
		panic(e)
	}
	return b
}

// joined is a signature of both its halves.
func joined(first, last [32]byte) [64]byte { return [64]byte(slices.Concat(first[:], last[:])) }

// sumOf is the number that a wide sum is, by Go's own, of parts one behind the other.
func sumOf(parts ...[]byte) *big.Int {
	sum := sha512.Sum512(slices.Concat(parts...))
	return mod(read(sum[:]))
}

// secret are a key's number, as it stands in its bytes, and the bytes behind, as the chapter's words say it.
func secret(seed [32]byte) (*big.Int, [32]byte) {
	sum := sha512.Sum512(seed[:])
	number := read(sum[:32])
	for i := range 3 {
		number.SetBit(number, i, 0)
	}
	number.SetBit(number, 255, 0)
	number.SetBit(number, 254, 1)
	return number, [32]byte(sum[32:])
}

// key is Go's own one of a seed; public is its public one.
func key(seed [32]byte) ed25519.PrivateKey { return ed25519.NewKeyFromSeed(seed[:]) }
func public(seed [32]byte) [32]byte {
	return [32]byte(key(seed).Public().(ed25519.PublicKey))
}

// goSays tells whether a signature is a text's by Go's own words.
func goSays(public [32]byte, text []byte, sig [64]byte) bool {
	return ed25519.Verify(public[:], text, sig[:])
}

// seeds are some of all kinds, and drawn ones.
func seeds(many int) [][32]byte {
	var full, high, low [32]byte
	for i := range full {
		full[i] = 255
	}
	low[0], high[31] = 1, 128
	l := [][32]byte{{}, full, low, high}
	r := rand.New(rand.NewSource(81))
	for range many {
		var b [32]byte
		r.Read(b[:])
		l = append(l, b)
	}
	return l
}

// drawn is a text of so many bytes.
func drawn(n int) []byte {
	b := make([]byte, n)
	rand.New(rand.NewSource(int64(n))).Read(b)
	return b
}

// lengths are those at which a wide sum's blocks begin and end, behind one part of thirty-two bytes, or two, and others.
func lengths() []int {
	l := []int{500, 1000, 4096, 70000}
	for i := range 300 {
		l = append(l, i)
	}
	return l
}

// smalls are the eight points of which eight are Zero: the first is Zero, and the others so many of one whose order is eight.
func smalls() []api.Point {
	less := scalarOf(plus(order, -1))
	for y := int64(2); ; y++ {
		p, e := point.Decode(lowFirst(big.NewInt(y)))
		if e != api.OK {
			continue
		}
		p = curve.Add(curve.Mul(less, p), p)
		l := []api.Point{curve.Zero()}
		for q := p; q != curve.Zero(); q = curve.Add(q, p) {
			l = append(l, q)
		}
		if len(l) == 8 {
			return l
		}
	}
}

// odds are numbers around 0, L, and powers of 2, as a signature's last bytes may be.
func odds() []*big.Int {
	var l []*big.Int
	add := func(x *big.Int) {
		if x.Sign() >= 0 && x.BitLen() <= 256 {
			l = append(l, x)
		}
	}
	for d := int64(-2); d <= 2; d++ {
		for n := range int64(16) {
			add(plus(new(big.Int).Mul(order, big.NewInt(n)), d))
		}
		for _, i := range []uint{251, 252, 253, 254, 255, 256} {
			add(plus(new(big.Int).Lsh(one, i), d))
		}
	}
	return l
}

// P8.1 to P8.3: RFC 8032, 7.1, tests 1 to 3.
func TestKnown(t *testing.T) {
	for i, c := range []struct{ seed, public, text, sig string }{
		{"9d61b19deffd5a60ba844af492ec2cc44449c5697b326919703bac031cae7f60", "d75a980182b10ab7d54bfed3c964073a0ee172f3daa62325af021a68f707511a", "", "e5564300c360ac729086e2cc806e828a84877f1eb8e5d974d873e065224901555fb8821590a33bacc61e39701cf9b46bd25bf5f0595bbe24655141438e7a100b"},
		{"4ccd089b28ff96da9db6c346ec114e0f5b8a319f35aba624da8cf6ed4fb8a6fb", "3d4017c3e843895a92b70aa74d1b7ebc9c982ccf2ec4968cc0cd55f12af4660c", "72", "92a009a9f0d4cab8720e820b5f642540a2b27b5416503f8fb3762223ebdb69da085ac1e43e15996e458f3613d0f11d8c387b2eaeb4302aeeb00d291612bb0c00"},
		{"c5aa8df43f9f837bedb7442f31dcb7b166d38535076f094b85ce3a2e0b4458f7", "fc51cd8e6218a1a38da47ed00230f0580816ed13ba3303ac5deb911548908025", "af82", "6291d657deec24024827e69c3abe01a30ce548a284743a445e3680d7db5ac3ac18ff9b538d16f290ae67f760984dc6594a7c15e9716ed28dc027beceea1ec40a"},
	} {
		seed, want, text, sig := [32]byte(unhex(c.seed)), [32]byte(unhex(c.public)), unhex(c.text), [64]byte(unhex(c.sig))
		if got := sign.Public(seed); got != want {
			t.Errorf("%d: public %x", i, got)
		}
		if got := sign.Sign(seed, text); got != sig {
			t.Errorf("%d: signature %x", i, got)
		}
		if !sign.Verify(want, text, sig) {
			t.Errorf("%d is not verified", i)
		}
	}
}

// P8.1: the number, below L, and the bytes, by the words; and the public key, by Go's own.
func TestSecret(t *testing.T) {
	for _, seed := range seeds(400) {
		number, b := secret(seed)
		got, bytes := sign.Secret(seed)
		if got != scalarOf(mod(number)) || bytes != b {
			t.Errorf("%x: %x, %x", seed, got, bytes)
		}
		if got := sign.Public(seed); got != public(seed) || got != point.Times(scalarOf(mod(number))) {
			t.Errorf("%x: %x", seed, got)
		}
	}
}

// P8.2: signatures are Go's own, of whatever key, and of texts of whatever length.
func TestSign(t *testing.T) {
	l := seeds(40)
	check := func(seed [32]byte, text []byte) {
		want := [64]byte(ed25519.Sign(key(seed), text))
		if got := sign.Sign(seed, text); got != want {
			t.Errorf("%x, %d bytes: %x", seed, len(text), got)
		}
	}
	for i, n := range lengths() {
		check(l[i%len(l)], drawn(n))
	}
	for _, seed := range l {
		check(seed, nil)
		check(seed, []byte{})
		check(seed, make([]byte, 32))
		check(seed, seed[:])
	}
}

// P8.2: both halves, by the words.
func TestSignHalves(t *testing.T) {
	for i, seed := range seeds(40) {
		text := drawn(7 * i)
		x, b := secret(seed)
		r := sumOf(b[:], text)
		first := point.Times(scalarOf(r))
		own := public(seed)
		k := sumOf(first[:], own[:], text)
		last := lowFirst(mod(new(big.Int).Add(r, new(big.Int).Mul(k, x))))
		if got := sign.Sign(seed, text); got != joined(first, last) {
			t.Errorf("%x: %x", seed, got)
		}
	}
}

// P8.3: what Go signed is verified, of texts of whatever length.
func TestVerify(t *testing.T) {
	l := seeds(40)
	for i, n := range lengths() {
		seed, text := l[i%len(l)], drawn(n)
		if !sign.Verify(public(seed), text, [64]byte(ed25519.Sign(key(seed), text))) {
			t.Errorf("%x, %d bytes", seed, n)
		}
	}
	seed := l[3]
	if sig := [64]byte(ed25519.Sign(key(seed), nil)); !sign.Verify(public(seed), nil, sig) || !sign.Verify(public(seed), []byte{}, sig) {
		t.Error("no bytes may be nil or not")
	}
}

// P8.3: with one bit otherwise, of whatever is handed in, it is verified no more.
func TestVerifyBits(t *testing.T) {
	for i, seed := range seeds(2) {
		text := drawn(3 + 3*i)
		own, sig := public(seed), sign.Sign(seed, text)
		for k := range 512 {
			other := sig
			other[k/8] ^= 1 << (k % 8)
			if sign.Verify(own, text, other) {
				t.Errorf("%x: bit %d of the signature", seed, k)
			}
		}
		for k := range 256 {
			other := own
			other[k/8] ^= 1 << (k % 8)
			if sign.Verify(other, text, sig) {
				t.Errorf("%x: bit %d of the key", seed, k)
			}
		}
		for k := range 8 * len(text) {
			other := slices.Clone(text)
			other[k/8] ^= 1 << (k % 8)
			if sign.Verify(own, other, sig) {
				t.Errorf("%x: bit %d of the text", seed, k)
			}
		}
	}
}

// P8.3: another text, another key, and another signature are not verified.
func TestVerifyOther(t *testing.T) {
	l := seeds(8)
	for i, seed := range l {
		text := drawn(20 + i)
		own, sig := public(seed), sign.Sign(seed, text)
		for _, other := range [][]byte{nil, text[1:], text[:len(text)-1], append(slices.Clone(text), 0), slices.Concat([]byte{0}, text), slices.Concat(text, text)} {
			if sign.Verify(own, other, sig) {
				t.Errorf("%x: %x", seed, other)
			}
		}
		next := l[(i+1)%len(l)]
		if sign.Verify(public(next), text, sig) || sign.Verify(own, text, sign.Sign(next, text)) || sign.Verify(seed, text, sig) {
			t.Errorf("%x: another key", seed)
		}
		swapped := joined([32]byte(sig[32:]), [32]byte(sig[:32]))
		if sign.Verify(own, text, [64]byte{}) || sign.Verify(own, text, swapped) || sign.Verify([32]byte{}, text, sig) {
			t.Errorf("%x: bytes 0, or halves the other way round", seed)
		}
	}
}

// P8.3: S from L on is no number's, though it would be right modulo L.
func TestVerifyGreat(t *testing.T) {
	many := 0
	for i, seed := range seeds(6) {
		text := drawn(i)
		own, sig := public(seed), sign.Sign(seed, text)
		for s := new(big.Int).Add(read(sig[32:]), order); s.BitLen() <= 256; s = new(big.Int).Add(s, order) {
			many++
			if sign.Verify(own, text, joined([32]byte(sig[:32]), lowFirst(s))) {
				t.Errorf("%x: %x", seed, s)
			}
		}
	}
	if many < 100 {
		t.Errorf("%d are from L on", many)
	}
}

// P8.3: of the key that is Zero all S below L are right, with R so many of Base; those from L on are not.
func TestVerifyEdges(t *testing.T) {
	zero, below, l := point.Encode(curve.Zero()), 0, odds()
	for _, s := range l {
		sig := joined(point.Times(scalarOf(s)), lowFirst(s))
		want := s.Cmp(order) < 0
		if want {
			below++
		}
		if got := sign.Verify(zero, []byte("edge"), sig); got != want {
			t.Errorf("%x: %v", s, got)
		}
	}
	if below < 5 || below > len(l)-5 {
		t.Errorf("%d are below L", below)
	}
}

// P8.3: a key that is no point is none, though it be read as one, or taken as Zero.
func TestVerifyNoPoint(t *testing.T) {
	marked := func(y *big.Int) [32]byte { return lowFirst(new(big.Int).SetBit(y, 255, 1)) }
	keys := [][32]byte{marked(big.NewInt(1)), marked(plus(prime, -1)), lowFirst(big.NewInt(2)), marked(big.NewInt(2))}
	for i := range int64(19) {
		keys = append(keys, lowFirst(plus(prime, i)), marked(plus(prime, i)))
	}
	r, texts := rand.New(rand.NewSource(83)), [][]byte{nil, {0}, drawn(50)}
	for _, own := range keys {
		if _, e := point.Decode(own); e != api.ErrPoint {
			t.Fatalf("%x is a point", own)
		}
		for _, text := range texts {
			for range 4 {
				s := new(big.Int).Rand(r, order)
				if sign.Verify(own, text, joined(point.Times(scalarOf(s)), lowFirst(s))) {
					t.Errorf("%x: %x", own, s)
				}
			}
		}
	}
	// Go reads these as Zero, and as Y 0: what it verifies of them is not verified here.
	taken := 0
	for _, own := range [][32]byte{marked(big.NewInt(1)), lowFirst(prime), lowFirst(plus(prime, 1))} {
		for i := range 40 {
			sig := joined(point.Times(api.Sc{9}), lowFirst(big.NewInt(9)))
			if goSays(own, drawn(i), sig) {
				taken++
			}
			if sign.Verify(own, drawn(i), sig) {
				t.Errorf("%x, %d bytes", own, i)
			}
		}
	}
	if taken < 20 {
		t.Errorf("%d are Go's", taken)
	}
}

// P8.3: R are the point's bytes as they are written, and no others.
func TestVerifyNoR(t *testing.T) {
	zero, last := point.Encode(curve.Zero()), [32]byte{}
	if !sign.Verify(zero, nil, joined(zero, last)) {
		t.Error("Zero is 0 of Base")
	}
	odd := zero
	odd[31] |= 128
	none := lowFirst(big.NewInt(2))
	for _, first := range [][32]byte{odd, lowFirst(plus(prime, 1)), none, {}} {
		if sign.Verify(zero, nil, joined(first, last)) {
			t.Errorf("%x", first)
		}
	}
}

// P8.3: of a key with a part of a small order that part counts, too: S of Base less k of the point is R itself, and not only eight times.
func TestVerifyMixed(t *testing.T) {
	x, s := big.NewInt(0), big.NewInt(77777)
	for _, base := range []*big.Int{x, plus(x, 5), plus(order, -9)} {
		right, wrong := 0, 0
		for _, small := range smalls() {
			own := point.Encode(curve.Add(curve.Mul(scalarOf(base), curve.Base()), small))
			for i := range 24 {
				// R is as if so many of the small part were taken off; whether that is k of it shows then.
				text, off := drawn(i/8), curve.Mul(api.Sc{uint64(i % 8)}, small)
				first := point.Encode(curve.Add(curve.Mul(scalarOf(s), curve.Base()), curve.Neg(off)))
				k := sumOf(first[:], own[:], text)
				last := lowFirst(mod(new(big.Int).Add(s, new(big.Int).Mul(k, base))))
				want := curve.Same(curve.Mul(scalarOf(k), small), off)
				if want {
					right++
				} else {
					wrong++
				}
				if got := sign.Verify(own, text, joined(first, last)); got != want || got != goSays(own, text, joined(first, last)) {
					t.Errorf("%x, %x: %v", own, text, got)
				}
			}
		}
		if right < 30 || wrong < 30 {
			t.Errorf("%d are right, %d are not", right, wrong)
		}
	}
}

// P8.4: what was signed is verified.
func TestBack(t *testing.T) {
	for i, seed := range seeds(30) {
		for _, text := range [][]byte{nil, {byte(i)}, seed[:], drawn(50 * i)} {
			own, sig := sign.Public(seed), sign.Sign(seed, text)
			if !sign.Verify(own, text, sig) || !goSays(own, text, sig) {
				t.Errorf("%x: %x", seed, text)
			}
		}
	}
}

// P8.4: of a key, a text, and an R there is one S, whether R is a signature's or any point of the great group.
func TestOneS(t *testing.T) {
	for i, seed := range seeds(4) {
		text := drawn(i)
		own := public(seed)
		x, _ := secret(seed)
		for _, r := range []*big.Int{{}, one, plus(order, -1), sumOf(seed[:])} {
			first := point.Times(scalarOf(r))
			s := mod(new(big.Int).Add(r, new(big.Int).Mul(sumOf(first[:], own[:], text), x)))
			for _, other := range append(odds(), plus(s, 1), plus(s, -1), new(big.Int).Sub(order, s), new(big.Int).Sub(order, r), r, x, s) {
				if other.Sign() < 0 {
					continue
				}
				if got := sign.Verify(own, text, joined(first, lowFirst(other))); got != (other.Cmp(s) == 0) {
					t.Errorf("%x, %x: %x is %v", seed, r, other, got)
				}
			}
		}
	}
}

// R1: whatever bytes there are, calls answer; of drawn ones nothing is verified.
func TestAny(t *testing.T) {
	r := rand.New(rand.NewSource(85))
	for i := range 300 {
		var own [32]byte
		var sig [64]byte
		r.Read(own[:])
		r.Read(sig[:])
		if i%2 == 0 {
			sig[63] &= 15
		}
		if sign.Verify(own, drawn(i), sig) {
			t.Errorf("%x, %x", own, sig)
		}
	}
	full := [32]byte(bytes.Repeat([]byte{255}, 32))
	if sign.Verify(full, nil, joined(full, full)) || sign.Verify([32]byte{}, nil, [64]byte{}) {
		t.Error("all bits 1, or 0")
	}
}

// R4, R5: what is handed in stays, its spare room too; what is answered hangs on it alone, and not on the spare room.
func TestAgain(t *testing.T) {
	seed := seeds(1)[4]
	whole := drawn(400)
	text := whole[100:300]
	own, sig := sign.Public(seed), sign.Sign(seed, text)
	if !sign.Verify(own, text, sig) || !bytes.Equal(whole, drawn(400)) {
		t.Error("the text is not the same")
	}
	if sign.Sign(seed, slices.Clip(text)) != sig || sign.Sign(seed, slices.Clone(text)) != sig {
		t.Error("the capacity tells")
	}
	number, b := sign.Secret(seed)
	for i, other := range seeds(20) {
		sign.Verify(sign.Public(other), drawn(i), sign.Sign(other, drawn(i)))
	}
	again, c := sign.Secret(seed)
	if again != number || c != b || sign.Public(seed) != own || sign.Sign(seed, text) != sig || !sign.Verify(own, text, sig) {
		t.Error("not the same again")
	}
	for i := range whole {
		whole[i] ^= 255
	}
	if sign.Verify(own, text, sig) || !sign.Verify(own, drawn(400)[100:300], sig) {
		t.Error("the text is kept")
	}
}
