/-
  Digits of sixteen bits: sums, products, carries; limbs of sixty-four. Pure.
-/
import Derived.Test.YthhcjknkmdaeeaaDoorField
namespace Go.Proofs.YthhcjknkmdaeeaaDoor

def dv : List Nat → Nat
  | [] => 0
  | x :: xs => x + 65536 * dv xs
theorem dv_append : ∀ (a b : List Nat), dv (a ++ b) = dv a + 65536 ^ a.length * dv b
  | [], b => by simp [dv]
  | x :: a, b => by
    simp only [List.cons_append, dv, dv_append a b, List.length_cons, Nat.pow_succ]
    rw [Nat.mul_add, ← Nat.mul_assoc, Nat.mul_comm 65536 (65536 ^ a.length)]
    omega
theorem dv_set : ∀ (l : List Nat) (j v : Nat) (hj : j < l.length), dv (l.set j (l[j] + v)) = dv l + v * 65536 ^ j
  | x :: l, 0, v, _ => by simp only [List.set_cons_zero, List.getElem_cons_zero, dv, Nat.pow_zero, Nat.mul_one]; omega
  | x :: l, j + 1, v, hj => by
    simp only [List.set_cons_succ, List.getElem_cons_succ, dv]
    rw [dv_set l j v (by simpa using hj), Nat.mul_add, Nat.pow_succ, ← Nat.mul_assoc v, Nat.mul_comm 65536 (v * 65536 ^ j)]
    omega
theorem dv_lt : ∀ (l : List Nat), (∀ x ∈ l, x < 65536) → dv l < 65536 ^ l.length
  | [], _ => by simp [dv]
  | x :: l, h => by
    have h1 := dv_lt l (fun y hy => h y (by simp [hy]))
    have h2 := h x (by simp)
    simp only [dv, List.length_cons, Nat.pow_succ]
    omega
theorem dv_replicate : ∀ n, dv (List.replicate n 0) = 0
  | 0 => rfl
  | n + 1 => by rw [List.replicate_succ, dv, dv_replicate n]
theorem dv_take_succ (l : List Nat) {j : Nat} (hj : j < l.length) : dv (l.take (j + 1)) = dv (l.take j) + l[j] * 65536 ^ j := by
  rw [List.take_succ_eq_append_getElem hj, dv_append, List.length_take, Nat.min_eq_left (by omega)]
  simp only [dv, Nat.mul_zero, Nat.add_zero]
  rw [Nat.mul_comm]
/-- What an upper half weighs. -/
theorem dv_half (l : List Nat) (n : Nat) : dv l = dv (l.take n) + 65536 ^ (min n l.length) * dv (l.drop n) := by
  conv => lhs; rw [← List.take_append_drop n l, dv_append, List.length_take]

def digit (n i : Nat) : Nat := n / 65536 ^ i % 65536
def digits (n k : Nat) : List Nat := (List.range k).map (digit n)
theorem digits_length (n k : Nat) : (digits n k).length = k := by simp [digits]
theorem digits_get (n k : Nat) {i : Nat} (h : i < (digits n k).length) : (digits n k)[i] = digit n i := by simp [digits]
theorem digit_lt (n i : Nat) : digit n i < 65536 := Nat.mod_lt _ (by omega)
theorem digits_lt (n k : Nat) : ∀ x ∈ digits n k, x < 65536 := fun x hx => by
  obtain ⟨i, _, rfl⟩ := List.mem_map.1 hx
  exact digit_lt n i
theorem dv_digits (n : Nat) : ∀ k, dv (digits n k) = n % 65536 ^ k
  | 0 => by simp [digits, dv, Nat.mod_one]
  | k + 1 => by
    have e : digits n (k + 1) = digits n k ++ [digit n k] := by simp [digits, List.range_succ]
    rw [e, dv_append, dv_digits n k, digits_length]
    simp only [dv, Nat.mul_zero, Nat.add_zero]
    unfold digit
    rw [Nat.pow_succ, Nat.mod_mul]

/-- What has digits below 65536 is told by its number. -/
theorem digits_dv : ∀ (l : List Nat), (∀ x ∈ l, x < 65536) → digits (dv l) l.length = l
  | [], _ => rfl
  | x :: l, h => by
    have ih := digits_dv l (fun y hy => h y (by simp [hy]))
    have h2 := h x (by simp)
    refine List.ext_getElem (by simp [digits]) fun i h1 h3 => ?_
    rw [digits_get]
    cases i with
    | zero => simp only [digit, dv, Nat.pow_zero, Nat.div_one, List.getElem_cons_zero]; omega
    | succ j =>
      have h4 : j < l.length := by simpa using h3
      have e : (digits (dv l) l.length)[j]'(by simpa [digits] using h4) = l[j] := by simp only [ih]
      rw [digits_get] at e
      simp only [List.getElem_cons_succ]
      rw [← e]
      unfold digit
      rw [dv, Nat.pow_succ, Nat.mul_comm (65536 ^ j), ← Nat.div_div_eq_div_mul, show (x + 65536 * dv l) / 65536 = dv l by omega]

/-! Carries. -/
def pass : List Nat → Nat → List Nat × Nat
  | [], c => ([], c)
  | x :: xs, c => ((x + c) % 65536 :: (pass xs ((x + c) / 65536)).1, (pass xs ((x + c) / 65536)).2)
theorem pass_length : ∀ (l : List Nat) (c : Nat), (pass l c).1.length = l.length
  | [], _ => rfl
  | x :: l, c => by simp only [pass, List.length_cons, pass_length l]
theorem pass_eq : ∀ (l : List Nat) (c : Nat), dv (pass l c).1 + 65536 ^ l.length * (pass l c).2 = dv l + c
  | [], c => by simp [pass, dv]
  | x :: l, c => by
    have ih := pass_eq l ((x + c) / 65536)
    simp only [pass, dv, List.length_cons, Nat.pow_succ]
    rw [Nat.mul_comm (65536 ^ l.length) 65536, Nat.mul_assoc]
    omega
theorem pass_lt : ∀ (l : List Nat) (c : Nat), ∀ x ∈ (pass l c).1, x < 65536
  | [], _, x, h => by cases h
  | y :: l, c, x, h => by
    simp only [pass, List.mem_cons] at h
    rcases h with rfl | h
    · exact Nat.mod_lt _ (by omega)
    · exact pass_lt l _ x h
theorem pass_snoc : ∀ (l : List Nat) (x c : Nat), pass (l ++ [x]) c = ((pass l c).1 ++ [(x + (pass l c).2) % 65536], (x + (pass l c).2) / 65536)
  | [], x, c => rfl
  | y :: l, x, c => by simp only [List.cons_append, pass, pass_snoc l x]
theorem pass_carry : ∀ (l : List Nat) (c : Nat), (∀ x ∈ l, x < 4398046511104) → c < 134217728 → (pass l c).2 < 134217728
  | [], _, _, h => h
  | x :: l, c, hl, h => by
    have h1 := hl x (by simp)
    simp only [pass]
    exact pass_carry l _ (fun y hy => hl y (by simp [hy])) (by omega)

/-- A round: the last carry goes in below, 38 times. -/
def round38 (l : List Nat) : List Nat := (pass l 0).1.set 0 ((pass l 0).1.getD 0 0 + 38 * (pass l 0).2)
theorem round38_length (l : List Nat) : (round38 l).length = l.length := by unfold round38; rw [List.length_set, pass_length]
theorem two256 : 65536 ^ 16 = 2 * PP + 38 := by decide
theorem dv_round38 {l : List Nat} (hl : l.length = 16) : dv (round38 l) = dv (pass l 0).1 + 38 * (pass l 0).2 := by
  have h0 : 0 < (pass l 0).1.length := by rw [pass_length]; omega
  have h := dv_set (pass l 0).1 0 (38 * (pass l 0).2) h0
  rw [Nat.pow_zero, Nat.mul_one] at h
  unfold round38
  rw [List.getD_eq_getElem?_getD, List.getElem?_eq_getElem h0, Option.getD_some, h]
theorem toF_round38 {l : List Nat} (hl : l.length = 16) : toF (dv (round38 l)) = toF (dv l) := by
  have h := pass_eq l 0
  rw [hl, two256] at h
  have h' : dv (pass l 0).1 + (2 * PP + 38) * (pass l 0).2 = dv l := h
  rw [dv_round38 hl, toF_eq, ← h', show (2 * PP + 38) * (pass l 0).2 = 38 * (pass l 0).2 + PP * (2 * (pass l 0).2) by
    rw [Nat.add_mul, Nat.mul_assoc, Nat.mul_left_comm]; omega, ← Nat.add_assoc, Nat.add_mul_mod_self_left]
theorem round38_lt {l : List Nat} (hx : ∀ x ∈ l, x < 4398046511104) : ∀ x ∈ round38 l, x < 4398046511104 := fun x h => by
  have hc := pass_carry l 0 hx (by omega)
  unfold round38 at h
  rcases List.mem_or_eq_of_mem_set h with h | rfl
  · have := pass_lt l 0 x h; omega
  · have : (pass l 0).1.getD 0 0 < 65536 := by
      rw [List.getD_eq_getElem?_getD]
      cases hg : (pass l 0).1[0]? with
      | none => simp
      | some y => exact pass_lt l 0 y (List.mem_of_getElem? hg)
    omega

theorem round38_small {l : List Nat} (hz : (pass l 0).2 = 0) : ∀ x ∈ round38 l, x < 65536 := fun x h => by
  unfold round38 at h
  rw [hz] at h
  rcases List.mem_or_eq_of_mem_set h with h | h
  · exact pass_lt _ 0 x h
  · rw [h, List.getD_eq_getElem?_getD]
    cases hg : (pass l 0).1[0]? with
    | none => simp
    | some y => exact pass_lt _ 0 y (List.mem_of_getElem? hg)

/-- Three rounds: all digits are below 65536, and the number is the same modulo P. -/
theorem three_rounds {l : List Nat} (hl : l.length = 16) (hx : ∀ x ∈ l, x < 4398046511104) :
    (∀ x ∈ round38 (round38 (round38 l)), x < 65536) ∧ toF (dv (round38 (round38 (round38 l)))) = toF (dv l) := by
  have l1 : (round38 l).length = 16 := by rw [round38_length, hl]
  have l2 : (round38 (round38 l)).length = 16 := by rw [round38_length, l1]
  refine ⟨?_, by rw [toF_round38 l2, toF_round38 l1, toF_round38 hl]⟩
  have c1 := pass_carry l 0 hx (by omega)
  have v1 := dv_round38 hl
  have d1 := dv_lt (pass l 0).1 (pass_lt l 0)
  rw [pass_length, hl] at d1
  have e2 := pass_eq (round38 l) 0
  rw [l1] at e2
  have v2 := dv_round38 l1
  have d2 := dv_lt (pass (round38 l) 0).1 (pass_lt _ 0)
  rw [pass_length, l1] at d2
  have e3 := pass_eq (round38 (round38 l)) 0
  rw [l2] at e3
  have hz : (pass (round38 (round38 l)) 0).2 = 0 := by
    have hp : (65536 : Nat) ^ 16 = 115792089237316195423570985008687907853269984665640564039457584007913129639936 := by decide
    rw [hp] at *
    omega
  exact round38_small hz

/-! Limbs. -/
def limb (n i : Nat) : Nat := n / 18446744073709551616 ^ i % 18446744073709551616
theorem limb_lt (n i : Nat) : limb n i < 18446744073709551616 := Nat.mod_lt _ (by omega)
def limbs (a b c d : Nat) : Nat := a + 18446744073709551616 * (b + 18446744073709551616 * (c + 18446744073709551616 * d))
theorem limbs_limb {n : Nat} (h : n < 115792089237316195423570985008687907853269984665640564039457584007913129639936) : limbs (limb n 0) (limb n 1) (limb n 2) (limb n 3) = n := by
  unfold limbs limb
  simp only [Nat.pow_zero, Nat.div_one, Nat.pow_one, show (18446744073709551616 : Nat) ^ 2 = 340282366920938463463374607431768211456 by decide, show (18446744073709551616 : Nat) ^ 3 = 6277101735386680763835789423207666416102355444464034512896 by decide]
  omega
theorem limb_limbs {a b c d : Nat} (ha : a < 18446744073709551616) (hb : b < 18446744073709551616) (hc : c < 18446744073709551616) (hd : d < 18446744073709551616) :
    limb (limbs a b c d) 0 = a ∧ limb (limbs a b c d) 1 = b ∧ limb (limbs a b c d) 2 = c ∧ limb (limbs a b c d) 3 = d := by
  unfold limbs limb
  simp only [Nat.pow_zero, Nat.div_one, Nat.pow_one, show (18446744073709551616 : Nat) ^ 2 = 340282366920938463463374607431768211456 by decide, show (18446744073709551616 : Nat) ^ 3 = 6277101735386680763835789423207666416102355444464034512896 by decide]
  refine ⟨?_, ?_, ?_, ?_⟩ <;> omega
theorem limbs_lt {a b c d : Nat} (ha : a < 18446744073709551616) (hb : b < 18446744073709551616) (hc : c < 18446744073709551616) (hd : d < 18446744073709551616) : limbs a b c d < 115792089237316195423570985008687907853269984665640564039457584007913129639936 := by
  unfold limbs; omega
end Go.Proofs.YthhcjknkmdaeeaaDoor
