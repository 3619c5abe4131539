/-
  SHA-512, plain: what the program and the document both do, as functions of words and bytes.
-/
import Derived.Test.YtppaffamlfghjaaDoorWords
namespace Go.Proofs.YtppaffamlfghjaaDoor
open Go.RowKit

def uv (x : UInt64) : Value := .int .u64 (x.toNat : Int)
/-- A number turned to the right by k. -/
def rotr (x : UInt64) (k : Nat) : UInt64 := UInt64.ofNat (x.toNat / 2 ^ k + x.toNat * 2 ^ (64 - k))
/-- A number shifted to the right by k. -/
def shr (x : UInt64) (k : Nat) : UInt64 := UInt64.ofNat (x.toNat / 2 ^ k)
def tmix (x : UInt64) (i j k : Nat) : UInt64 := rotr x i ^^^ rotr x j ^^^ rotr x k
def smix (x : UInt64) (i j k : Nat) : UInt64 := rotr x i ^^^ rotr x j ^^^ shr x k

/-- The eight numbers of a state. -/
structure St where
  a : UInt64
  b : UInt64
  c : UInt64
  d : UInt64
  e : UInt64
  f : UInt64
  g : UInt64
  h : UInt64
deriving DecidableEq

def St.list (s : St) : List UInt64 := [s.a, s.b, s.c, s.d, s.e, s.f, s.g, s.h]
def St.cells (s : St) : Array Value := #[uv s.a, uv s.b, uv s.c, uv s.d, uv s.e, uv s.f, uv s.g, uv s.h]
def sv (s : St) : Value := .agg s.cells

def rt1 (s : St) (k w : UInt64) : UInt64 := s.h + tmix s.e 14 18 41 + ((s.e &&& s.f) ||| (~~~s.e &&& s.g)) + k + w
def rt2 (s : St) : UInt64 := tmix s.a 28 34 39 + ((s.a &&& s.b) ||| (s.a &&& s.c) ||| (s.b &&& s.c))
/-- One round. -/
def rnd (s : St) (k w : UInt64) : St := ⟨rt1 s k w + rt2 s, s.a, s.b, s.c, s.d + rt1 s k w, s.e, s.f, s.g⟩

def be64 (l : List UInt8) : UInt64 := UInt64.ofNat (beNum (l.take 8))

/-- The word behind those that are. -/
def nextWord (b : List UInt8) (l : List UInt64) (n : Nat) : UInt64 :=
  if n < 16 then be64 (b.drop (8 * n)) else smix (l.getD (n - 2) 0) 19 61 6 + l.getD (n - 7) 0 + smix (l.getD (n - 15) 0) 1 8 7 + l.getD (n - 16) 0
/-- The first n words of a block. -/
def wordsN (b : List UInt8) : Nat → List UInt64
  | 0 => []
  | n + 1 => wordsN b n ++ [nextWord b (wordsN b n) n]
/-- Word n of a block. -/
def ww (b : List UInt8) (n : Nat) : UInt64 := nextWord b (wordsN b n) n

theorem wordsN_length (b : List UInt8) : ∀ n, (wordsN b n).length = n
  | 0 => rfl
  | n + 1 => by simp [wordsN, wordsN_length b n]
theorem wordsN_getD (b : List UInt8) : ∀ (n j : Nat), j < n → (wordsN b n).getD j 0 = ww b j
  | 0, j, h => by omega
  | n + 1, j, h => by
    unfold wordsN
    rcases Nat.lt_or_ge j n with h1 | h1
    · have := wordsN_getD b n j h1
      rw [List.getD_eq_getElem?_getD, List.getElem?_append_left (by rw [wordsN_length]; exact h1), ← List.getD_eq_getElem?_getD]
      exact this
    · obtain rfl : j = n := by omega
      rw [List.getD_eq_getElem?_getD, List.getElem?_append_right (by rw [wordsN_length]; exact Nat.le_refl _), wordsN_length, Nat.sub_self]
      rfl
theorem ww_low (b : List UInt8) {n : Nat} (h : n < 16) : ww b n = be64 (b.drop (8 * n)) := by unfold ww nextWord; rw [if_pos h]
theorem ww_high (b : List UInt8) {n : Nat} (h : 16 ≤ n) : ww b n = smix (ww b (n - 2)) 19 61 6 + ww b (n - 7) + smix (ww b (n - 15)) 1 8 7 + ww b (n - 16) := by
  have h1 : ww b n = nextWord b (wordsN b n) n := rfl
  rw [h1]
  unfold nextWord
  rw [if_neg (by omega), wordsN_getD b n _ (by omega), wordsN_getD b n _ (by omega), wordsN_getD b n _ (by omega), wordsN_getD b n _ (by omega)]

/-- The constants. -/
def kks : List UInt64 := [
  0x428a2f98d728ae22, 0x7137449123ef65cd, 0xb5c0fbcfec4d3b2f, 0xe9b5dba58189dbbc,
  0x3956c25bf348b538, 0x59f111f1b605d019, 0x923f82a4af194f9b, 0xab1c5ed5da6d8118,
  0xd807aa98a3030242, 0x12835b0145706fbe, 0x243185be4ee4b28c, 0x550c7dc3d5ffb4e2,
  0x72be5d74f27b896f, 0x80deb1fe3b1696b1, 0x9bdc06a725c71235, 0xc19bf174cf692694,
  0xe49b69c19ef14ad2, 0xefbe4786384f25e3, 0x0fc19dc68b8cd5b5, 0x240ca1cc77ac9c65,
  0x2de92c6f592b0275, 0x4a7484aa6ea6e483, 0x5cb0a9dcbd41fbd4, 0x76f988da831153b5,
  0x983e5152ee66dfab, 0xa831c66d2db43210, 0xb00327c898fb213f, 0xbf597fc7beef0ee4,
  0xc6e00bf33da88fc2, 0xd5a79147930aa725, 0x06ca6351e003826f, 0x142929670a0e6e70,
  0x27b70a8546d22ffc, 0x2e1b21385c26c926, 0x4d2c6dfc5ac42aed, 0x53380d139d95b3df,
  0x650a73548baf63de, 0x766a0abb3c77b2a8, 0x81c2c92e47edaee6, 0x92722c851482353b,
  0xa2bfe8a14cf10364, 0xa81a664bbc423001, 0xc24b8b70d0f89791, 0xc76c51a30654be30,
  0xd192e819d6ef5218, 0xd69906245565a910, 0xf40e35855771202a, 0x106aa07032bbd1b8,
  0x19a4c116b8d2d0c8, 0x1e376c085141ab53, 0x2748774cdf8eeb99, 0x34b0bcb5e19b48a8,
  0x391c0cb3c5c95a63, 0x4ed8aa4ae3418acb, 0x5b9cca4f7763e373, 0x682e6ff3d6b2b8a3,
  0x748f82ee5defb2fc, 0x78a5636f43172f60, 0x84c87814a1f0ab72, 0x8cc702081a6439ec,
  0x90befffa23631e28, 0xa4506cebde82bde9, 0xbef9a3f7b2c67915, 0xc67178f2e372532b,
  0xca273eceea26619c, 0xd186b8c721c0c207, 0xeada7dd6cde0eb1e, 0xf57d4f7fee6ed178,
  0x06f067aa72176fba, 0x0a637dc5a2c898a6, 0x113f9804bef90dae, 0x1b710b35131c471b,
  0x28db77f523047d84, 0x32caab7b40c72493, 0x3c9ebe0a15c9bebc, 0x431d67c49c100d4c,
  0x4cc5d4becb3e42b6, 0x597f299cfc657e2a, 0x5fcb6fab3ad6faec, 0x6c44198c4a475817]
def kk (n : Nat) : UInt64 := kks.getD n 0
/-- The first State. -/
def st0 : St := ⟨0x6a09e667f3bcc908, 0xbb67ae8584caa73b, 0x3c6ef372fe94f82b, 0xa54ff53a5f1d36f1, 0x510e527fade682d1, 0x9b05688c2b3e6c1f, 0x1f83d9abfb41bd6b, 0x5be0cd19137e2179⟩

/-- Behind n rounds. -/
def rounds (b : List UInt8) (s : St) : Nat → St
  | 0 => s
  | n + 1 => rnd (rounds b s n) (kk n) (ww b n)
def St.add (x s : St) : St := ⟨s.a + x.a, s.b + x.b, s.c + x.c, s.d + x.d, s.e + x.e, s.f + x.f, s.g + x.g, s.h + x.h⟩
/-- A block goes in. -/
def blk (s : St) (b : List UInt8) : St := (rounds b s 80).add s

theorem be64_take {b c : List UInt8} (h : b.take 8 = c.take 8) : be64 b = be64 c := by unfold be64; rw [h]
theorem wordsN_take (b : List UInt8) : ∀ n, wordsN (b.take 128) n = wordsN b n
  | 0 => rfl
  | n + 1 => by
    unfold wordsN
    rw [wordsN_take b n]
    congr 2
    unfold nextWord
    split
    · exact be64_take (by rw [List.drop_take, List.take_take, Nat.min_eq_left (by omega)])
    · rfl
theorem ww_take (b : List UInt8) (n : Nat) : ww (b.take 128) n = ww b n := by
  unfold ww
  rw [wordsN_take]
  unfold nextWord
  split
  · exact be64_take (by rw [List.drop_take, List.take_take, Nat.min_eq_left (by omega)])
  · rfl
theorem rounds_take (b : List UInt8) (s : St) : ∀ n, rounds (b.take 128) s n = rounds b s n
  | 0 => rfl
  | n + 1 => by unfold rounds; rw [rounds_take b s n, ww_take]
theorem blk_take (s : St) (b : List UInt8) : blk s (b.take 128) = blk s b := by unfold blk; rw [rounds_take]

/-- All whole blocks go in. -/
def absorbN : Nat → St → List UInt8 → St
  | 0, s, _ => s
  | n + 1, s, l => absorbN n (blk s l) (l.drop 128)
def absorb (s : St) (l : List UInt8) : St := absorbN (l.length / 128) s l
/-- What is left over. -/
def left (l : List UInt8) : List UInt8 := l.drop (128 * (l.length / 128))

theorem absorb_short (s : St) {l : List UInt8} (h : l.length < 128) : absorb s l = s := by unfold absorb; rw [Nat.div_eq_of_lt h]; rfl
theorem left_short {l : List UInt8} (h : l.length < 128) : left l = l := by unfold left; rw [Nat.div_eq_of_lt h]; rfl
theorem absorb_long (s : St) {l : List UInt8} (h : 128 ≤ l.length) : absorb s l = absorb (blk s l) (l.drop 128) := by
  unfold absorb
  rw [List.length_drop, show l.length / 128 = (l.length - 128) / 128 + 1 by omega]
  rfl
theorem left_long {l : List UInt8} (h : 128 ≤ l.length) : left l = left (l.drop 128) := by
  unfold left
  rw [List.length_drop, List.drop_drop]
  congr 1
  omega
theorem left_length (l : List UInt8) : (left l).length = l.length % 128 := by unfold left; rw [List.length_drop]; omega

/-- Parts: what goes in with b behind l is what goes in with b behind what was left of l. -/
theorem absorb_append : ∀ (n : Nat) (l b : List UInt8) (s : St), l.length / 128 = n → absorb s (l ++ b) = absorb (absorb s l) (left l ++ b) ∧ left (l ++ b) = left (left l ++ b)
  | 0, l, b, s, h => by
    have hl : l.length < 128 := by omega
    rw [absorb_short s hl, left_short hl]
    exact ⟨rfl, rfl⟩
  | n + 1, l, b, s, h => by
    have hl : 128 ≤ l.length := by omega
    have hd : (l ++ b).drop 128 = l.drop 128 ++ b := by rw [List.drop_append_of_le_length hl]
    have ht : blk s (l ++ b) = blk s l := by rw [← blk_take s (l ++ b), ← blk_take s l, List.take_append_of_le_length hl]
    obtain ⟨h1, h2⟩ := absorb_append n (l.drop 128) b (blk s l) (by rw [List.length_drop]; omega)
    rw [absorb_long s (l := l ++ b) (by rw [List.length_append]; omega), left_long (l := l ++ b) (by rw [List.length_append]; omega), hd, ht, absorb_long s hl, left_long hl]
    exact ⟨h1, h2⟩
theorem absorb_app (l b : List UInt8) (s : St) : absorb s (l ++ b) = absorb (absorb s l) (left l ++ b) := (absorb_append _ l b s rfl).1
theorem left_app (l b : List UInt8) : left (l ++ b) = left (left l ++ b) := (absorb_append _ l b st0 rfl).2

/-- The bytes of a state, the highest of each number first. -/
def outAt (s : St) (i : Nat) : UInt8 := UInt8.ofNat ((s.list.getD (i / 8) 0).toNat / 2 ^ (56 - 8 * (i % 8)))
def out64 (s : St) : List UInt8 := (List.range 64).map (outAt s)
theorem out64_length (s : St) : (out64 s).length = 64 := by simp [out64]

/-- What stands behind a text's last byte. -/
def tailOf (r many : Nat) : List UInt8 := (128 : UInt8) :: List.replicate (128 - (r + 16) % 128 - 1) 0 ++ (beBytes 8 (many * 8 / 18446744073709551616) ++ beBytes 8 (many * 8 % 18446744073709551616))
/-- The sum of a text that is summed. -/
def endOf (s : St) (r : List UInt8) (many : Nat) : List UInt8 := out64 (absorb s (r ++ tailOf r.length many))
/-- The sum of a text. -/
def sumOf (b : List UInt8) : List UInt8 := endOf (absorb st0 b) (left b) b.length
end Go.Proofs.YtppaffamlfghjaaDoor
