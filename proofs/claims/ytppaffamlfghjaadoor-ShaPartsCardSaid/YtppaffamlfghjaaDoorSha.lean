/-
  SHA-256, plain: what the program and the document both do, as functions of words and bytes.
-/
import Derived.Test.YtppaffamlfghjaaDoorWords
namespace Go.Proofs.YtppaffamlfghjaaDoor
open Go.RowKit

def uv (x : UInt32) : Value := .int .u32 (x.toNat : Int)
/-- A number turned to the right by k. -/
def rotr (x : UInt32) (k : Nat) : UInt32 := UInt32.ofNat (x.toNat / 2 ^ k + x.toNat * 2 ^ (32 - k))
/-- A number shifted to the right by k. -/
def shr (x : UInt32) (k : Nat) : UInt32 := UInt32.ofNat (x.toNat / 2 ^ k)
def tmix (x : UInt32) (i j k : Nat) : UInt32 := rotr x i ^^^ rotr x j ^^^ rotr x k
def smix (x : UInt32) (i j k : Nat) : UInt32 := rotr x i ^^^ rotr x j ^^^ shr x k

/-- The eight numbers of a state. -/
structure St where
  a : UInt32
  b : UInt32
  c : UInt32
  d : UInt32
  e : UInt32
  f : UInt32
  g : UInt32
  h : UInt32
deriving DecidableEq

def St.list (s : St) : List UInt32 := [s.a, s.b, s.c, s.d, s.e, s.f, s.g, s.h]
def St.cells (s : St) : Array Value := #[uv s.a, uv s.b, uv s.c, uv s.d, uv s.e, uv s.f, uv s.g, uv s.h]
def sv (s : St) : Value := .agg s.cells

def rt1 (s : St) (k w : UInt32) : UInt32 := s.h + tmix s.e 6 11 25 + ((s.e &&& s.f) ||| (~~~s.e &&& s.g)) + k + w
def rt2 (s : St) : UInt32 := tmix s.a 2 13 22 + ((s.a &&& s.b) ||| (s.a &&& s.c) ||| (s.b &&& s.c))
/-- One round. -/
def rnd (s : St) (k w : UInt32) : St := ⟨rt1 s k w + rt2 s, s.a, s.b, s.c, s.d + rt1 s k w, s.e, s.f, s.g⟩

def be32 (l : List UInt8) : UInt32 := UInt32.ofNat (beNum (l.take 4))

/-- The word behind those that are. -/
def nextWord (b : List UInt8) (l : List UInt32) (n : Nat) : UInt32 :=
  if n < 16 then be32 (b.drop (4 * n)) else l.getD (n - 16) 0 + (smix (l.getD (n - 2) 0) 17 19 10 + l.getD (n - 7) 0 + smix (l.getD (n - 15) 0) 7 18 3)
/-- The first n words of a block. -/
def wordsN (b : List UInt8) : Nat → List UInt32
  | 0 => []
  | n + 1 => wordsN b n ++ [nextWord b (wordsN b n) n]
/-- Word n of a block. -/
def ww (b : List UInt8) (n : Nat) : UInt32 := nextWord b (wordsN b n) n

theorem wordsN_length (b : List UInt8) : ∀ n, (wordsN b n).length = n
  | 0 => rfl
  | n + 1 => by simp [wordsN, wordsN_length b n]
theorem wordsN_getD (b : List UInt8) : ∀ (n j : Nat), j < n → (wordsN b n).getD j 0 = ww b j
  | 0, j, h => by omega
  | n + 1, j, h => by
    unfold wordsN
    rcases Nat.lt_or_ge j n with h1 | h1
    · have := wordsN_getD b n j h1
      rw [List.getD_eq_getElem?_getD, List.getElem?_append_left (by rw [wordsN_length]; exact h1), ← List.getD_eq_getElem?_getD]
      exact this
    · obtain rfl : j = n := by omega
      rw [List.getD_eq_getElem?_getD, List.getElem?_append_right (by rw [wordsN_length]; exact Nat.le_refl _), wordsN_length, Nat.sub_self]
      rfl
theorem ww_low (b : List UInt8) {n : Nat} (h : n < 16) : ww b n = be32 (b.drop (4 * n)) := by unfold ww nextWord; rw [if_pos h]
theorem ww_high (b : List UInt8) {n : Nat} (h : 16 ≤ n) : ww b n = ww b (n - 16) + (smix (ww b (n - 2)) 17 19 10 + ww b (n - 7) + smix (ww b (n - 15)) 7 18 3) := by
  have h1 : ww b n = nextWord b (wordsN b n) n := rfl
  rw [h1]
  unfold nextWord
  rw [if_neg (by omega), wordsN_getD b n _ (by omega), wordsN_getD b n _ (by omega), wordsN_getD b n _ (by omega), wordsN_getD b n _ (by omega)]

/-- The constants. -/
def kks : List UInt32 := [
  0x428a2f98, 0x71374491, 0xb5c0fbcf, 0xe9b5dba5, 0x3956c25b, 0x59f111f1, 0x923f82a4, 0xab1c5ed5,
  0xd807aa98, 0x12835b01, 0x243185be, 0x550c7dc3, 0x72be5d74, 0x80deb1fe, 0x9bdc06a7, 0xc19bf174,
  0xe49b69c1, 0xefbe4786, 0x0fc19dc6, 0x240ca1cc, 0x2de92c6f, 0x4a7484aa, 0x5cb0a9dc, 0x76f988da,
  0x983e5152, 0xa831c66d, 0xb00327c8, 0xbf597fc7, 0xc6e00bf3, 0xd5a79147, 0x06ca6351, 0x14292967,
  0x27b70a85, 0x2e1b2138, 0x4d2c6dfc, 0x53380d13, 0x650a7354, 0x766a0abb, 0x81c2c92e, 0x92722c85,
  0xa2bfe8a1, 0xa81a664b, 0xc24b8b70, 0xc76c51a3, 0xd192e819, 0xd6990624, 0xf40e3585, 0x106aa070,
  0x19a4c116, 0x1e376c08, 0x2748774c, 0x34b0bcb5, 0x391c0cb3, 0x4ed8aa4a, 0x5b9cca4f, 0x682e6ff3,
  0x748f82ee, 0x78a5636f, 0x84c87814, 0x8cc70208, 0x90befffa, 0xa4506ceb, 0xbef9a3f7, 0xc67178f2]
def kk (n : Nat) : UInt32 := kks.getD n 0
/-- The first State. -/
def st0 : St := ⟨0x6a09e667, 0xbb67ae85, 0x3c6ef372, 0xa54ff53a, 0x510e527f, 0x9b05688c, 0x1f83d9ab, 0x5be0cd19⟩

/-- Behind n rounds. -/
def rounds (b : List UInt8) (s : St) : Nat → St
  | 0 => s
  | n + 1 => rnd (rounds b s n) (kk n) (ww b n)
def St.add (x s : St) : St := ⟨s.a + x.a, s.b + x.b, s.c + x.c, s.d + x.d, s.e + x.e, s.f + x.f, s.g + x.g, s.h + x.h⟩
/-- A block goes in. -/
def blk (s : St) (b : List UInt8) : St := (rounds b s 64).add s

theorem be32_take {b c : List UInt8} (h : b.take 4 = c.take 4) : be32 b = be32 c := by unfold be32; rw [h]
theorem wordsN_take (b : List UInt8) : ∀ n, wordsN (b.take 64) n = wordsN b n
  | 0 => rfl
  | n + 1 => by
    unfold wordsN
    rw [wordsN_take b n]
    congr 2
    unfold nextWord
    split
    · exact be32_take (by rw [List.drop_take, List.take_take, Nat.min_eq_left (by omega)])
    · rfl
theorem ww_take (b : List UInt8) (n : Nat) : ww (b.take 64) n = ww b n := by
  unfold ww
  rw [wordsN_take]
  unfold nextWord
  split
  · exact be32_take (by rw [List.drop_take, List.take_take, Nat.min_eq_left (by omega)])
  · rfl
theorem rounds_take (b : List UInt8) (s : St) : ∀ n, rounds (b.take 64) s n = rounds b s n
  | 0 => rfl
  | n + 1 => by unfold rounds; rw [rounds_take b s n, ww_take]
theorem blk_take (s : St) (b : List UInt8) : blk s (b.take 64) = blk s b := by unfold blk; rw [rounds_take]

/-- All whole blocks go in. -/
def absorbN : Nat → St → List UInt8 → St
  | 0, s, _ => s
  | n + 1, s, l => absorbN n (blk s l) (l.drop 64)
def absorb (s : St) (l : List UInt8) : St := absorbN (l.length / 64) s l
/-- What is left over. -/
def left (l : List UInt8) : List UInt8 := l.drop (64 * (l.length / 64))

theorem absorb_short (s : St) {l : List UInt8} (h : l.length < 64) : absorb s l = s := by unfold absorb; rw [Nat.div_eq_of_lt h]; rfl
theorem left_short {l : List UInt8} (h : l.length < 64) : left l = l := by unfold left; rw [Nat.div_eq_of_lt h]; rfl
theorem absorb_long (s : St) {l : List UInt8} (h : 64 ≤ l.length) : absorb s l = absorb (blk s l) (l.drop 64) := by
  unfold absorb
  rw [List.length_drop, show l.length / 64 = (l.length - 64) / 64 + 1 by omega]
  rfl
theorem left_long {l : List UInt8} (h : 64 ≤ l.length) : left l = left (l.drop 64) := by
  unfold left
  rw [List.length_drop, List.drop_drop]
  congr 1
  omega
theorem left_length (l : List UInt8) : (left l).length = l.length % 64 := by unfold left; rw [List.length_drop]; omega

/-- Parts: what goes in with b behind l is what goes in with b behind what was left of l. -/
theorem absorb_append : ∀ (n : Nat) (l b : List UInt8) (s : St), l.length / 64 = n → absorb s (l ++ b) = absorb (absorb s l) (left l ++ b) ∧ left (l ++ b) = left (left l ++ b)
  | 0, l, b, s, h => by
    have hl : l.length < 64 := by omega
    rw [absorb_short s hl, left_short hl]
    exact ⟨rfl, rfl⟩
  | n + 1, l, b, s, h => by
    have hl : 64 ≤ l.length := by omega
    have hd : (l ++ b).drop 64 = l.drop 64 ++ b := by rw [List.drop_append_of_le_length hl]
    have ht : blk s (l ++ b) = blk s l := by rw [← blk_take s (l ++ b), ← blk_take s l, List.take_append_of_le_length hl]
    obtain ⟨h1, h2⟩ := absorb_append n (l.drop 64) b (blk s l) (by rw [List.length_drop]; omega)
    rw [absorb_long s (l := l ++ b) (by rw [List.length_append]; omega), left_long (l := l ++ b) (by rw [List.length_append]; omega), hd, ht, absorb_long s hl, left_long hl]
    exact ⟨h1, h2⟩
theorem absorb_app (l b : List UInt8) (s : St) : absorb s (l ++ b) = absorb (absorb s l) (left l ++ b) := (absorb_append _ l b s rfl).1
theorem left_app (l b : List UInt8) : left (l ++ b) = left (left l ++ b) := (absorb_append _ l b st0 rfl).2

/-- The bytes of a state, the highest of each number first. -/
def outAt (s : St) (i : Nat) : UInt8 := UInt8.ofNat ((s.list.getD (i / 4) 0).toNat / 2 ^ (24 - 8 * (i % 4)))
def out32 (s : St) : List UInt8 := (List.range 32).map (outAt s)
theorem out32_length (s : St) : (out32 s).length = 32 := by simp [out32]

/-- What stands behind a text's last byte. -/
def tailOf (r many : Nat) : List UInt8 := (128 : UInt8) :: List.replicate (64 - (r + 8) % 64 - 1) 0 ++ beBytes 8 (8 * many % 18446744073709551616)
/-- The sum of a text that is summed. -/
def endOf (s : St) (r : List UInt8) (many : Nat) : List UInt8 := out32 (absorb s (r ++ tailOf r.length many))
/-- The sum of a text. -/
def sumOf (b : List UInt8) : List UInt8 := endOf (absorb st0 b) (left b) b.length
end Go.Proofs.YtppaffamlfghjaaDoor
