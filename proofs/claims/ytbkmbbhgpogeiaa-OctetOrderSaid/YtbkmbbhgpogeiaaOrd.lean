/-
  Bytes in order, and bits of bytes: no program.
-/
import Derived.Lib.Bytealg
namespace Go.Proofs.Ytbkmbbhgpogeiaa
open Lib (compareBytes)

theorem u8_lt {x y : UInt8} : x < y ↔ x.toNat < y.toNat := UInt8.lt_iff_toNat_lt

theorem cmp_range : ∀ a b : List UInt8, compareBytes a b = -1 ∨ compareBytes a b = 0 ∨ compareBytes a b = 1
  | [], [] => by simp [compareBytes]
  | [], _ :: _ => by simp [compareBytes]
  | _ :: _, [] => by simp [compareBytes]
  | x :: a, y :: b => by
    simp only [compareBytes]
    split
    · simp
    · split
      · simp
      · exact cmp_range a b

theorem cmp_anti : ∀ a b : List UInt8, compareBytes b a = - compareBytes a b
  | [], [] => by simp [compareBytes]
  | [], _ :: _ => by simp [compareBytes]
  | _ :: _, [] => by simp [compareBytes]
  | x :: a, y :: b => by
    simp only [compareBytes, u8_lt]
    by_cases h1 : x.toNat < y.toNat
    · have h2 : ¬ y.toNat < x.toNat := by omega
      simp [h1, h2]
    · by_cases h2 : y.toNat < x.toNat
      · simp [h1, h2]
      · simp only [h1, h2, if_false]
        exact cmp_anti a b

theorem cmp_zero : ∀ {a b : List UInt8}, compareBytes a b = 0 → a = b
  | [], [], _ => rfl
  | [], _ :: _, h => by simp [compareBytes] at h
  | _ :: _, [], h => by simp [compareBytes] at h
  | x :: a, y :: b, h => by
    simp only [compareBytes, u8_lt] at h
    split at h
    · simp at h
    · split at h
      · simp at h
      · rw [cmp_zero h, UInt8.toNat_inj.1 (show x.toNat = y.toNat by omega)]

theorem cmp_same : ∀ a : List UInt8, compareBytes a a = 0
  | [] => by simp [compareBytes]
  | x :: a => by
    have : ¬ x.toNat < x.toNat := by omega
    simp only [compareBytes, u8_lt, this, if_false]
    exact cmp_same a

theorem cmp_trans : ∀ {a b c : List UInt8}, compareBytes a b ≤ 0 → compareBytes b c ≤ 0 → compareBytes a c ≤ 0
  | [], _, [], _, _ => by simp [compareBytes]
  | [], _, _ :: _, _, _ => by simp [compareBytes]
  | _ :: _, [], _, h, _ => by simp [compareBytes] at h
  | _ :: _, _ :: _, [], _, h => by simp [compareBytes] at h
  | x :: a, y :: b, z :: c, h1, h2 => by
    simp only [compareBytes, u8_lt] at h1 h2 ⊢
    by_cases e1 : x.toNat < y.toNat
    · by_cases e2 : y.toNat < z.toNat
      · rw [if_pos (by omega)]; omega
      · rw [if_neg e2] at h2
        by_cases e3 : z.toNat < y.toNat
        · rw [if_pos e3] at h2; omega
        · rw [if_pos (by omega)]; omega
    · rw [if_neg e1] at h1
      by_cases e2 : y.toNat < x.toNat
      · rw [if_pos e2] at h1; omega
      · rw [if_neg e2] at h1
        by_cases e3 : y.toNat < z.toNat
        · rw [if_pos (by omega)]; omega
        · rw [if_neg e3] at h2
          by_cases e4 : z.toNat < y.toNat
          · rw [if_pos e4] at h2; omega
          · rw [if_neg e4] at h2
            rw [if_neg (by omega), if_neg (by omega)]
            exact cmp_trans h1 h2

theorem cmp_zeros : ∀ a : List UInt8, 0 ≤ compareBytes a (List.replicate a.length 0)
  | [] => by simp [compareBytes]
  | x :: a => by
    simp only [List.length_cons, List.replicate_succ, compareBytes, u8_lt]
    have h : ¬ x.toNat < (0 : UInt8).toNat := by simp
    rw [if_neg h]
    split
    · omega
    · exact cmp_zeros a

/-- A bit of a number. -/
theorem bit_eq (x m : Nat) : x / 2 ^ m % 2 = (x.testBit m).toNat := by
  rw [Nat.testBit_eq_decide_div_mod_eq]
  rcases Nat.mod_two_eq_zero_or_one (x / 2 ^ m) with h | h <;> simp [h]

theorem turn_bit (x : UInt8) (j m : Nat) (hj : j < 8) : (x ^^^ UInt8.ofNat (2 ^ j)).toNat / 2 ^ m % 2 = if m = j then 1 - x.toNat / 2 ^ m % 2 else x.toNat / 2 ^ m % 2 := by
  have hp : 2 ^ j < 256 := by have := Nat.pow_lt_pow_right (a := 2) (by omega) hj; simpa using this
  rw [bit_eq, bit_eq, UInt8.toNat_xor, UInt8.toNat_ofNat', Nat.mod_eq_of_lt hp, Nat.testBit_xor, Nat.testBit_two_pow]
  by_cases h : m = j
  · subst h
    cases x.toNat.testBit m <;> simp
  · have h' : ¬ j = m := fun e => h e.symm
    simp [h, h']

theorem turn_turn (x : UInt8) (y : UInt8) : x ^^^ y ^^^ y = x := by
  rw [UInt8.xor_assoc, UInt8.xor_self, UInt8.xor_zero]

/-- The first seven, six, .. bits alike, and the next one not: it tells which is smaller. -/
theorem byte_order (x y : Nat) (hx : x < 256) (hy : y < 256) (j : Nat) (hj : j < 8) (h : ∀ m, m < j → x / 2 ^ (7 - m) % 2 = y / 2 ^ (7 - m) % 2) (hd : x / 2 ^ (7 - j) % 2 ≠ y / 2 ^ (7 - j) % 2) :
    (x / 2 ^ (7 - j) % 2 = 0 → x < y) ∧ (x / 2 ^ (7 - j) % 2 ≠ 0 → y < x) := by
  match j, hj with
  | 0, _ => simp at hd ⊢; omega
  | 1, _ => have h0 := h 0 (by omega); simp at hd h0 ⊢; omega
  | 2, _ => have h0 := h 0 (by omega); have h1 := h 1 (by omega); simp at hd h0 h1 ⊢; omega
  | 3, _ => have h0 := h 0 (by omega); have h1 := h 1 (by omega); have h2 := h 2 (by omega); simp at hd h0 h1 h2 ⊢; omega
  | 4, _ => have h0 := h 0 (by omega); have h1 := h 1 (by omega); have h2 := h 2 (by omega); have h3 := h 3 (by omega); simp at hd h0 h1 h2 h3 ⊢; omega
  | 5, _ => have h0 := h 0 (by omega); have h1 := h 1 (by omega); have h2 := h 2 (by omega); have h3 := h 3 (by omega); have h4 := h 4 (by omega); simp at hd h0 h1 h2 h3 h4 ⊢; omega
  | 6, _ => have h0 := h 0 (by omega); have h1 := h 1 (by omega); have h2 := h 2 (by omega); have h3 := h 3 (by omega); have h4 := h 4 (by omega); have h5 := h 5 (by omega); simp at hd h0 h1 h2 h3 h4 h5 ⊢; omega
  | 7, _ => have h0 := h 0 (by omega); have h1 := h 1 (by omega); have h2 := h 2 (by omega); have h3 := h 3 (by omega); have h4 := h 4 (by omega); have h5 := h 5 (by omega); have h6 := h 6 (by omega); simp at hd h0 h1 h2 h3 h4 h5 h6 ⊢; omega

theorem byte_same (x y : Nat) (hx : x < 256) (hy : y < 256) (h : ∀ m, m < 8 → x / 2 ^ (7 - m) % 2 = y / 2 ^ (7 - m) % 2) : x = y := by
  have h0 := h 0 (by omega); have h1 := h 1 (by omega); have h2 := h 2 (by omega); have h3 := h 3 (by omega)
  have h4 := h 4 (by omega); have h5 := h 5 (by omega); have h6 := h 6 (by omega); have h7 := h 7 (by omega)
  simp at h0 h1 h2 h3 h4 h5 h6 h7
  omega
end Go.Proofs.Ytbkmbbhgpogeiaa
