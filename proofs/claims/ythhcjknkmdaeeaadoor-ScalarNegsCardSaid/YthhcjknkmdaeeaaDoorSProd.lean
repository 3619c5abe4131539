/-
  The program's numbers modulo L: a whole product, limb by limb.
-/
import Derived.Test.YthhcjknkmdaeeaaDoorSBelow
namespace Go.Proofs.YthhcjknkmdaeeaaDoor
open Go.RowKit
namespace Sca

theorem Tryd.infoProd : (Tryd.prog.info? 44).map (·.size) = some 8 := by kernel_rfl

/-- What the first i limbs of m make of n. -/
def rows (m n i : Nat) : Nat := m % 18446744073709551616 ^ i * n
theorem rows_zero (m n : Nat) : rows m n 0 = 0 := by unfold rows; rw [Nat.pow_zero, Nat.mod_one, Nat.zero_mul]
theorem rows_four {m : Nat} (hm : m < big) (n : Nat) : rows m n 4 = m * n := by unfold rows; rw [big_pow, Nat.mod_eq_of_lt hm]
theorem rows_succ (m n i : Nat) : rows m n (i + 1) = rows m n i + 18446744073709551616 ^ i * (limb m i * n) := by
  unfold rows
  rw [mod_limb, Nat.add_mul, Nat.mul_assoc]
/-- What stands from limb i on behind i rows. -/
def rest (m n i : Nat) : Nat := rows m n i / 18446744073709551616 ^ i
theorem rest_lt {m n : Nat} (hn : n < big) (i : Nat) : rest m n i < 18446744073709551616 ^ 4 := by
  unfold rest rows
  rw [Nat.div_lt_iff_lt_mul (wpos i), big_pow, Nat.mul_comm big]
  have h1 := Nat.mod_lt m (wpos i)
  rcases Nat.eq_zero_or_pos n with h | h
  · subst h; exact Nat.mul_pos (wpos i) (by decide)
  · exact Nat.lt_of_lt_of_le (Nat.mul_lt_mul_of_pos_right h1 h) (Nat.mul_le_mul_left _ (Nat.le_of_lt hn))
theorem rest_succ (m n i : Nat) : rows m n (i + 1) / 18446744073709551616 ^ i = limb m i * n + rest m n i + 0 := by
  rw [rows_succ, Nat.add_mul_div_left _ _ (wpos i)]
  unfold rest
  omega
theorem limb_div (n i j : Nat) : limb (n / 18446744073709551616 ^ i) j = limb n (i + j) := by
  unfold limb
  rw [Nat.div_div_eq_div_mul, ← Nat.pow_add]
theorem limb_of_lt {n i : Nat} (h : n < 18446744073709551616 ^ i) : limb n i = 0 := by
  unfold limb; rw [Nat.div_eq_of_lt h]
/-- The limbs below i stay. -/
theorem rows_low {m n i p : Nat} (h : p < i) : limb (rows m n (i + 1)) p = limb (rows m n i) p := by
  rw [rows_succ]
  unfold limb
  have e : 18446744073709551616 ^ i = 18446744073709551616 ^ p * (18446744073709551616 * 18446744073709551616 ^ (i - p - 1)) := by
    rw [← Nat.pow_succ', ← Nat.pow_add]; congr 1; omega
  rw [e, Nat.mul_assoc, Nat.mul_assoc, Nat.add_mul_div_left _ _ (wpos p), Nat.add_mul_mod_self_left]
/-- The limbs above stay 0. -/
theorem rows_lt {m n : Nat} (hn : n < big) (i : Nat) : rows m n i < 18446744073709551616 ^ (i + 4) := by
  have h := rest_lt (m := m) hn i
  unfold rest at h
  rw [Nat.div_lt_iff_lt_mul (wpos i), ← Nat.pow_add] at h
  rw [Nat.add_comm]; exact h
theorem rows_high {m n i p : Nat} (hn : n < big) (h : i + 5 ≤ p) : limb (rows m n (i + 1)) p = 0 ∧ limb (rows m n i) p = 0 := by
  have h1 := rows_lt (m := m) hn (i + 1)
  have h2 := rows_lt (m := m) hn i
  have mono : ∀ a, a ≤ p → 18446744073709551616 ^ a ≤ 18446744073709551616 ^ p := fun a ha => Nat.pow_le_pow_right (by omega) ha
  exact ⟨limb_of_lt (Nat.lt_of_lt_of_le h1 (mono _ (by omega))), limb_of_lt (Nat.lt_of_lt_of_le h2 (mono _ (by omega)))⟩
theorem rows_start {m n i : Nat} : mixL 8 (rows m n (i + 1)) (rows m n i) i = mixL 8 (rows m n i) 0 8 :=
  mixL_eq fun p hp => by
    by_cases h : p < i
    · rw [if_pos h, if_pos hp, rows_low h]
    · rw [if_neg h, if_pos hp]
theorem rows_end {m n i : Nat} (hn : n < big) : mixL 8 (rows m n (i + 1)) (rows m n i) (i + 5) = mixL 8 (rows m n (i + 1)) 0 8 :=
  mixL_eq fun p hp => by
    by_cases h : p < i + 5
    · rw [if_pos h, if_pos hp]
    · rw [if_neg h, if_pos hp, (rows_high hn (by omega)).1, (rows_high hn (by omega)).2]
/-- One step of a row. -/
theorem row_step (m n i j : Nat) : (limb m i * limb n j + limb (rows m n i) (i + j) + cy (limb m i) n (rest m n i) 0 j) % 18446744073709551616 = limb (rows m n (i + 1)) (i + j) ∧
    (limb m i * limb n j + limb (rows m n i) (i + j) + cy (limb m i) n (rest m n i) 0 j) / 18446744073709551616 = cy (limb m i) n (rest m n i) 0 (j + 1) := by
  have h1 := lin_limb (limb m i) n (rest m n i) 0 j
  have h2 := cy_succ (limb m i) n (rest m n i) 0 j
  rw [← rest_succ, limb_div] at h1
  have h3 : limb (rest m n i) j = limb (rows m n i) (i + j) := limb_div ..
  rw [h3] at h1 h2
  exact ⟨h1.symm, h2.symm⟩
theorem row_last {m n i : Nat} (hn : n < big) : cy (limb m i) n (rest m n i) 0 4 = limb (rows m n (i + 1)) (i + 4) := by
  rw [cy_whole (by rw [big_pow]; exact hn) (rest_lt hn i), ← rest_succ, ← limb_div]
  unfold limb
  refine (Nat.mod_eq_of_lt ?_).symm
  rw [rest_succ, Nat.div_lt_iff_lt_mul (wpos 4), big_pow]
  have h1 := limb_lt m i
  have h2 := rest_lt (m := m) hn i
  rw [big_pow] at h2
  unfold limb at *
  have h3 : m / 18446744073709551616 ^ i % 18446744073709551616 * n ≤ 18446744073709551615 * n := Nat.mul_le_mul_right _ (by omega)
  unfold big at *
  omega
/-- Eight limbs. -/
def lims8 (n : Nat) : List Nat := mixL 8 n 0 8
theorem lims8_length (n : Nat) : (lims8 n).length = 8 := mixL_length ..
theorem lims8_zero : List.replicate 8 0 = lims8 0 := by decide
theorem zeros8 : (#[.int .u64 0, .int .u64 0, .int .u64 0, .int .u64 0, .int .u64 0, .int .u64 0, .int .u64 0, .int .u64 0] : Array Value) = ((lims8 0).map nv).toArray := by rw [← lims8_zero]; rfl
theorem lims8_small (n : Nat) : ∀ x ∈ lims8 n, x < 18446744073709551616 := fun x hx => by
  unfold lims8 mixL at hx
  obtain ⟨p, _, rfl⟩ := List.mem_map.1 hx
  split <;> exact limb_lt _ _
theorem numL_lims8 {n : Nat} (h : n < big * big) : numL (lims8 n) = n := by
  have e : lims8 n = [limb n 0, limb n 1, limb n 2, limb n 3, limb n 4, limb n 5, limb n 6, limb n 7] := rfl
  rw [e]
  have hd : ∀ k, n / 18446744073709551616 ^ k = limb n k + 18446744073709551616 * (n / 18446744073709551616 ^ (k + 1)) := fun k => by
    rw [Nat.pow_succ, ← Nat.div_div_eq_div_mul]
    unfold limb
    exact (Nat.mod_add_div _ _).symm
  have e0 : n = n / 18446744073709551616 ^ 0 := by rw [Nat.pow_zero, Nat.div_one]
  have e8 : n / 18446744073709551616 ^ 8 = 0 := Nat.div_eq_of_lt (Nat.lt_of_lt_of_le h (by decide))
  conv => rhs; rw [e0, hd 0, hd 1, hd 2, hd 3, hd 4, hd 5, hd 6, hd 7, e8]
  rfl
end Sca
end Go.Proofs.YthhcjknkmdaeeaaDoor
