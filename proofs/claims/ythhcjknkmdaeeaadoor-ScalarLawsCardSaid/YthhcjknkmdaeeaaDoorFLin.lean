/-
  Limb by limb: what a number times another one, and a third, are; what is taken from one; what is below P. Pure.
-/
import Derived.Test.YthhcjknkmdaeeaaDoorLimbs
import Derived.Test.YthhcjknkmdaeeaaDoorNums
namespace Go.Proofs.YthhcjknkmdaeeaaDoor

/-! What a number q times X, and Y, and c, are: limbs and carries. -/
def cy (q X Y c k : Nat) : Nat := (q * (X % 18446744073709551616 ^ k) + Y % 18446744073709551616 ^ k + c) / 18446744073709551616 ^ k
theorem cy_zero (q X Y c : Nat) : cy q X Y c 0 = c := by unfold cy; rw [Nat.pow_zero, Nat.mod_one, Nat.mod_one, Nat.mul_zero, Nat.div_one]; omega
theorem mod_limb (X k : Nat) : X % 18446744073709551616 ^ (k + 1) = X % 18446744073709551616 ^ k + 18446744073709551616 ^ k * limb X k := by
  unfold limb
  rw [Nat.pow_succ, Nat.mod_mul]
theorem wpos (k : Nat) : 0 < 18446744073709551616 ^ k := Nat.pow_pos (by omega)
theorem cy_succ (q X Y c k : Nat) : cy q X Y c (k + 1) = (q * limb X k + limb Y k + cy q X Y c k) / 18446744073709551616 := by
  unfold cy
  rw [mod_limb, mod_limb, Nat.pow_succ, ← Nat.div_div_eq_div_mul]
  congr 1
  generalize X % 18446744073709551616 ^ k = x
  generalize Y % 18446744073709551616 ^ k = y
  have hp := wpos k
  generalize 18446744073709551616 ^ k = B at *
  rw [show q * (x + B * limb X k) + (y + B * limb Y k) + c = (q * x + y + c) + B * (q * limb X k + limb Y k) by
    rw [Nat.mul_add, Nat.mul_add, ← Nat.mul_assoc, Nat.mul_comm q B, Nat.mul_assoc]; omega, Nat.add_mul_div_left _ _ hp]
  omega
theorem lin_limb (q X Y c k : Nat) : limb (q * X + Y + c) k = (q * limb X k + limb Y k + cy q X Y c k) % 18446744073709551616 := by
  unfold cy
  rw [limb]
  have hx := Nat.mod_add_div X (18446744073709551616 ^ k)
  have hy := Nat.mod_add_div Y (18446744073709551616 ^ k)
  unfold limb
  generalize X % 18446744073709551616 ^ k = x at *
  generalize Y % 18446744073709551616 ^ k = y at *
  generalize X / 18446744073709551616 ^ k = u at *
  generalize Y / 18446744073709551616 ^ k = v at *
  have hp := wpos k
  generalize 18446744073709551616 ^ k = B at *
  rw [← hx, ← hy, show q * (x + B * u) + (y + B * v) + c = (q * x + y + c) + B * (q * u + v) by
    rw [Nat.mul_add, Nat.mul_add, ← Nat.mul_assoc, Nat.mul_comm q B, Nat.mul_assoc]; omega, Nat.add_mul_div_left _ _ hp]
  generalize (q * x + y + c) / B = z
  have e : q * (u % 18446744073709551616) % 18446744073709551616 = q * u % 18446744073709551616 := Nat.mul_mod_mod ..
  rw [Nat.add_mod (q * (u % 18446744073709551616) + v % 18446744073709551616), Nat.add_mod (q * (u % 18446744073709551616)), e, Nat.add_mod z]
  omega
/-- A small number added. -/
theorem limb_zero (k : Nat) : limb 0 k = 0 := by unfold limb; rw [Nat.zero_div]
theorem lin_small (m n k : Nat) : (limb m k + cy 1 m 0 n k + 0) % 18446744073709551616 = limb (m + n) k ∧ (limb m k + cy 1 m 0 n k + 0) / 18446744073709551616 = cy 1 m 0 n (k + 1) := by
  have hl := lin_limb 1 m 0 n k
  have hc := cy_succ 1 m 0 n k
  rw [limb_zero, Nat.one_mul, Nat.add_zero] at hl hc
  rw [Nat.one_mul, Nat.add_zero] at hl
  exact ⟨hl.symm, hc.symm⟩
/-- Two numbers added. -/
theorem lin_add (m n k : Nat) : (limb m k + limb n k + cy 1 m n 0 k) % 18446744073709551616 = limb (m + n) k ∧ (limb m k + limb n k + cy 1 m n 0 k) / 18446744073709551616 = cy 1 m n 0 (k + 1) := by
  have hl := lin_limb 1 m n 0 k
  have hc := cy_succ 1 m n 0 k
  rw [Nat.one_mul] at hl hc
  rw [Nat.one_mul, Nat.add_zero] at hl
  exact ⟨hl.symm, hc.symm⟩
theorem cy_lt {q X Y c : Nat} (hq : q < 18446744073709551616) (hc : c < 18446744073709551616) (k : Nat) : cy q X Y c k < 18446744073709551616 := by
  unfold cy
  have hp := wpos k
  have h1 := Nat.mod_lt X hp
  have h2 := Nat.mod_lt Y hp
  generalize X % 18446744073709551616 ^ k = x at *
  generalize Y % 18446744073709551616 ^ k = y at *
  generalize 18446744073709551616 ^ k = B at *
  rw [Nat.div_lt_iff_lt_mul hp]
  have h3 : q * x ≤ 18446744073709551615 * (B - 1) := Nat.mul_le_mul (by omega) (by omega)
  omega
theorem cy_bit {X Y c : Nat} (hc : c ≤ 1) (k : Nat) : cy 1 X Y c k ≤ 1 := by
  unfold cy
  have hp := wpos k
  have h1 := Nat.mod_lt X hp
  have h2 := Nat.mod_lt Y hp
  refine Nat.le_of_lt_succ ?_
  rw [Nat.div_lt_iff_lt_mul hp]
  omega
theorem cy_whole {q X Y c k : Nat} (hX : X < 18446744073709551616 ^ k) (hY : Y < 18446744073709551616 ^ k) : cy q X Y c k = (q * X + Y + c) / 18446744073709551616 ^ k := by
  unfold cy
  rw [Nat.mod_eq_of_lt hX, Nat.mod_eq_of_lt hY]

/-! An array in which the limbs of M give way to those of S, the lowest first. -/
def mixL (len S M k : Nat) : List Nat := (List.range len).map fun p => if p < k then limb S p else limb M p
theorem mixL_length (len S M k : Nat) : (mixL len S M k).length = len := by simp [mixL]
theorem mixL_get {len S M k p : Nat} (h : p < len) : (mixL len S M k).getD p 0 = if p < k then limb S p else limb M p := by
  unfold mixL
  rw [List.getD_eq_getElem?_getD, List.getElem?_map, List.getElem?_range h]
  rfl
theorem mixL_at {len S M k i : Nat} (h : i < (mixL len S M k).length) : (mixL len S M k)[i] = if i < k then limb S i else limb M i := by
  simp only [mixL, List.getElem_map, List.getElem_range]
theorem mixL_set {len S M k : Nat} (h : k < len) : (mixL len S M k).set k (limb S k) = mixL len S M (k + 1) := by
  refine List.ext_getElem (by simp [mixL]) fun i h1 h2 => ?_
  rw [List.getElem_set]
  by_cases e : k = i
  · subst e; rw [if_pos rfl, mixL_at, if_pos (by omega)]
  · rw [if_neg e, mixL_at, mixL_at]
    by_cases h3 : i < k
    · rw [if_pos h3, if_pos (by omega)]
    · rw [if_neg h3, if_neg (by omega)]
theorem mixL_eq {len S M k S' M' k' : Nat} (h : ∀ p, p < len → (if p < k then limb S p else limb M p) = (if p < k' then limb S' p else limb M' p)) : mixL len S M k = mixL len S' M' k' := by
  unfold mixL
  exact List.map_congr_left fun p hp => h p (List.mem_range.1 hp)
theorem lims_mix (S M : Nat) : mixL 4 S M 0 = lims M := rfl
theorem lims_mix4 (S M : Nat) : mixL 4 S M 4 = lims S := rfl
theorem lims_mod (S : Nat) : lims S = lims (S % big) := by
  unfold lims limb big
  simp only [Nat.pow_zero, Nat.div_one, Nat.pow_one, show (18446744073709551616 : Nat) ^ 2 = 340282366920938463463374607431768211456 by decide, show (18446744073709551616 : Nat) ^ 3 = 6277101735386680763835789423207666416102355444464034512896 by decide]
  refine congr (congrArg _ ?_) (congr (congrArg _ ?_) (congr (congrArg _ ?_) (congrArg (fun x => [x]) ?_))) <;> omega
theorem big_pow : (18446744073709551616 : Nat) ^ 4 = big := by decide

/-! Differences, whatever is taken from whatever. -/
def bw (m n k : Nat) : Nat := if m % 18446744073709551616 ^ k < n % 18446744073709551616 ^ k then 1 else 0
theorem bw_bit (m n k : Nat) : bw m n k ≤ 1 := by unfold bw; split <;> omega
theorem bw_succ (m n k : Nat) : bw m n (k + 1) = if limb m k < limb n k + bw m n k then 1 else 0 := by
  unfold bw
  rw [mod_limb, mod_limb]
  have hp := wpos k
  have h1 := Nat.mod_lt m hp
  have h2 := Nat.mod_lt n hp
  generalize m % 18446744073709551616 ^ k = x at *
  generalize n % 18446744073709551616 ^ k = y at *
  generalize 18446744073709551616 ^ k = B at *
  generalize limb m k = u
  generalize limb n k = v
  by_cases h : u < v
  · have h3 : B * (u + 1) ≤ B * v := Nat.mul_le_mul_left _ h
    rw [Nat.mul_add] at h3
    rw [if_pos (by omega), if_pos (by split <;> omega)]
  · by_cases e : u = v
    · subst e
      by_cases h4 : x < y
      · rw [if_pos h4, if_pos (by omega), if_pos (by omega)]
      · rw [if_neg h4, if_neg (by omega), if_neg (by omega)]
    · have h3 : B * (v + 1) ≤ B * u := Nat.mul_le_mul_left _ (by omega)
      rw [Nat.mul_add] at h3
      rw [if_neg (by omega), if_neg (by split <;> omega)]
theorem dif_limb {m n k : Nat} (hn : n < big) (hk : k < 4) : limb (m + big - n) k = (limb m k + 18446744073709551616 - limb n k - bw m n k) % 18446744073709551616 := by
  unfold limb bw big at *
  match k, hk with
  | 0, _ => simp only [Nat.pow_zero, Nat.div_one, Nat.mod_one, Nat.lt_irrefl, if_false]; omega
  | 1, _ => simp only [Nat.pow_one]; split <;> omega
  | 2, _ => simp only [show (18446744073709551616 : Nat) ^ 2 = 340282366920938463463374607431768211456 by decide]; split <;> omega
  | 3, _ => simp only [show (18446744073709551616 : Nat) ^ 3 = 6277101735386680763835789423207666416102355444464034512896 by decide]; split <;> omega

/-! What is below P. -/
theorem PP_lit : PP = 57896044618658097711785492504343953926634992332820282019728792003956564819949 := by decide
theorem two255 (m a : Nat) : toF (m % 57896044618658097711785492504343953926634992332820282019728792003956564819968 + 19 * ((m + a * big) / 57896044618658097711785492504343953926634992332820282019728792003956564819968)) = toF (m + a * big) := by
  rw [toF_eq]
  have e : m + a * big = m % 57896044618658097711785492504343953926634992332820282019728792003956564819968 + 57896044618658097711785492504343953926634992332820282019728792003956564819968 * ((m + a * big) / 57896044618658097711785492504343953926634992332820282019728792003956564819968) := by unfold big; omega
  conv => rhs; rw [e]
  generalize (m + a * big) / 57896044618658097711785492504343953926634992332820282019728792003956564819968 = t
  have e2 : m % 57896044618658097711785492504343953926634992332820282019728792003956564819968 + 57896044618658097711785492504343953926634992332820282019728792003956564819968 * t = m % 57896044618658097711785492504343953926634992332820282019728792003956564819968 + 19 * t + PP * t := by rw [PP_lit]; omega
  rw [e2, Nat.add_mul_mod_self_left]
theorem below_yes {r : Nat} (h : r + 19 < 57896044618658097711785492504343953926634992332820282019728792003956564819968) : (toF r).val = r := by
  rw [toF_val, PP_lit, Nat.mod_eq_of_lt (by omega)]
theorem below_no {r : Nat} (h : ¬ r + 19 < 57896044618658097711785492504343953926634992332820282019728792003956564819968) (h2 : r < 115792089237316195423570985008687907853269984665640564039457584007913129639898) : (toF r).val = (r + 19) % 57896044618658097711785492504343953926634992332820282019728792003956564819968 := by
  rw [toF_val, PP_lit]; omega
theorem limb3_high (m : Nat) (h : m < big) : (limb m 3) / 9223372036854775808 = m / 57896044618658097711785492504343953926634992332820282019728792003956564819968 := by
  unfold limb big at *
  rw [show (18446744073709551616 : Nat) ^ 3 = 6277101735386680763835789423207666416102355444464034512896 by decide]; omega
theorem limb3_low (m : Nat) : (lims m).set 3 (limb m 3 % 9223372036854775808) = lims (m % 57896044618658097711785492504343953926634992332820282019728792003956564819968) := by
  unfold lims limb
  simp only [List.set_cons_succ, List.set_cons_zero, Nat.pow_zero, Nat.div_one, Nat.pow_one, show (18446744073709551616 : Nat) ^ 2 = 340282366920938463463374607431768211456 by decide, show (18446744073709551616 : Nat) ^ 3 = 6277101735386680763835789423207666416102355444464034512896 by decide]
  refine congr (congrArg _ ?_) (congr (congrArg _ ?_) (congr (congrArg _ ?_) (congrArg (fun x => [x]) ?_))) <;> omega
end Go.Proofs.YthhcjknkmdaeeaaDoor
