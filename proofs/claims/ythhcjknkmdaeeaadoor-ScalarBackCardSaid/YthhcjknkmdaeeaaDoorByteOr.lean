/-
  A byte laid above a number's others, by its limb. Pure.
-/
import Derived.Test.YthhcjknkmdaeeaaDoorLimbOr
namespace Go.Proofs.YthhcjknkmdaeeaaDoor
open Go.RowKit

theorem limb_top8 {N i : Nat} (hN : N < 256 ^ i) : limb N (i / 8) = N / 18446744073709551616 ^ (i / 8) ∧ limb N (i / 8) < 2 ^ (8 * (i % 8)) := by
  have e : (256 : Nat) ^ i = 18446744073709551616 ^ (i / 8) * 256 ^ (i % 8) := by
    rw [show (18446744073709551616 : Nat) = 256 ^ 8 by decide, ← Nat.pow_mul, ← Nat.pow_add, Nat.div_add_mod]
  have h1 : N / 18446744073709551616 ^ (i / 8) < 256 ^ (i % 8) := by
    rw [e] at hN
    exact Nat.div_lt_of_lt_mul hN
  have h2 : (256 : Nat) ^ (i % 8) ≤ 72057594037927936 := by
    rw [show (72057594037927936 : Nat) = 256 ^ 7 by decide]
    exact Nat.pow_le_pow_right (by omega) (by omega)
  have h3 : limb N (i / 8) = N / 18446744073709551616 ^ (i / 8) := by
    unfold limb
    exact Nat.mod_eq_of_lt (by omega)
  refine ⟨h3, ?_⟩
  rw [h3, Nat.pow_mul]
  exact h1

theorem limb_digit8 {N d i : Nat} (hN : N < 256 ^ i) (hd : d < 256) : limb (N + d * 256 ^ i) (i / 8) = limb N (i / 8) + 2 ^ (8 * (i % 8)) * d := by
  have e : (256 : Nat) ^ i = 18446744073709551616 ^ (i / 8) * 256 ^ (i % 8) := by
    rw [show (18446744073709551616 : Nat) = 256 ^ 8 by decide, ← Nat.pow_mul, ← Nat.pow_add, Nat.div_add_mod]
  obtain ⟨h1, h2⟩ := limb_top8 hN
  have hlt : N + d * 256 ^ i < 256 ^ (i + 1) := by
    rw [Nat.pow_succ]
    have : d * 256 ^ i ≤ 255 * 256 ^ i := Nat.mul_le_mul_right _ (by omega)
    omega
  have hq : (N + d * 256 ^ i) / 18446744073709551616 ^ (i / 8) = N / 18446744073709551616 ^ (i / 8) + 256 ^ (i % 8) * d := by
    rw [e, show d * (18446744073709551616 ^ (i / 8) * 256 ^ (i % 8)) = 18446744073709551616 ^ (i / 8) * (256 ^ (i % 8) * d) by rw [Nat.mul_left_comm, Nat.mul_comm d]]
    exact Nat.add_mul_div_left _ _ (Nat.pow_pos (by omega))
  unfold limb at *
  rw [hq, h1]
  have h16 : (2 : Nat) ^ (8 * (i % 8)) = 256 ^ (i % 8) := by rw [Nat.pow_mul]
  rw [h16] at h2 ⊢
  have h3 : (256 : Nat) ^ (i % 8) ≤ 72057594037927936 := by
    rw [show (72057594037927936 : Nat) = 256 ^ 7 by decide]
    exact Nat.pow_le_pow_right (by omega) (by omega)
  have h4 : 256 ^ (i % 8) * d ≤ 256 ^ (i % 8) * 255 := Nat.mul_le_mul_left _ (by omega)
  exact Nat.mod_eq_of_lt (by omega)

theorem limb_other8 {N d i j : Nat} (hN : N < 256 ^ i) (hd : d < 256) (hj : j ≠ i / 8) : limb (N + d * 256 ^ i) j = limb N j := by
  have hlt : N + d * 256 ^ i < 256 ^ (i + 1) := by
    rw [Nat.pow_succ]
    have : d * 256 ^ i ≤ 255 * 256 ^ i := Nat.mul_le_mul_right _ (by omega)
    omega
  unfold limb
  rcases Nat.lt_or_gt_of_ne hj with h | h
  · have e : (256 : Nat) ^ i = 18446744073709551616 ^ j * (18446744073709551616 * 256 ^ (i - 8 * (j + 1))) := by
      rw [← Nat.mul_assoc, ← Nat.pow_succ, show (18446744073709551616 : Nat) = 256 ^ 8 by decide, ← Nat.pow_mul, ← Nat.pow_add]
      congr 1
      omega
    rw [e, show d * (18446744073709551616 ^ j * (18446744073709551616 * 256 ^ (i - 8 * (j + 1)))) = 18446744073709551616 ^ j * (18446744073709551616 * (d * 256 ^ (i - 8 * (j + 1)))) by
      rw [Nat.mul_left_comm, Nat.mul_left_comm d 18446744073709551616], Nat.add_mul_div_left _ _ (Nat.pow_pos (by omega)), Nat.add_mul_mod_self_left]
  · have hle : (256 : Nat) ^ (i + 1) ≤ 18446744073709551616 ^ j := by
      rw [show (18446744073709551616 : Nat) = 256 ^ 8 by decide, ← Nat.pow_mul]
      exact Nat.pow_le_pow_right (by omega) (by omega)
    rw [Nat.div_eq_of_lt (by omega), Nat.div_eq_of_lt (by omega)]

theorem lims_digit8 {N d i : Nat} (hN : N < 256 ^ i) (hd : d < 256) : (lims N).set (i / 8) (limb N (i / 8) + 2 ^ (8 * (i % 8)) * d) = lims (N + d * 256 ^ i) := by
  refine List.ext_getElem (by simp [lims]) fun j h1 h2 => ?_
  have hj : j < 4 := by simpa [lims] using h2
  have g : ∀ n, (lims n)[j]'(by simpa [lims] using hj) = limb n j := fun n => by
    match j, hj with
    | 0, _ => rfl
    | 1, _ => rfl
    | 2, _ => rfl
    | 3, _ => rfl
  rw [List.getElem_set, g (N + d * 256 ^ i)]
  split
  · next e => rw [← limb_digit8 hN hd, e]
  · next e => rw [g, limb_other8 hN hd (fun h => e h.symm)]

theorem or_digit8 {x d r : Nat} (hx : x < 2 ^ (8 * r)) (hd : d < 256) (hr : r < 8) : bits .or .u64 (x : Int) (IntKind.u64.wrap ((d : Int) * 2 ^ (8 * r))) = ((x + 2 ^ (8 * r) * d : Nat) : Int) := by
  have h2 : (2 : Nat) ^ (8 * r) ≤ 72057594037927936 := by
    rw [show (72057594037927936 : Nat) = 2 ^ 56 by decide]
    exact Nat.pow_le_pow_right (by omega) (by omega)
  have h3 : 2 ^ (8 * r) * d ≤ 72057594037927936 * 255 := Nat.mul_le_mul h2 (by omega)
  have e : (d : Int) * 2 ^ (8 * r) = ((2 ^ (8 * r) * d : Nat) : Int) := by
    rw [Int.natCast_mul, Int.natCast_pow, Int.mul_comm]; rfl
  have hw : IntKind.u64.wrap ((2 ^ (8 * r) * d : Nat) : Int) = ((2 ^ (8 * r) * d : Nat) : Int) := by rw [IntKind.wrap_u64]; omega
  rw [e, hw, u64_or_nat _ _ (by omega) (by omega), Nat.add_comm, Nat.two_pow_add_eq_or_of_lt hx, Nat.or_comm]
end Go.Proofs.YthhcjknkmdaeeaaDoor
