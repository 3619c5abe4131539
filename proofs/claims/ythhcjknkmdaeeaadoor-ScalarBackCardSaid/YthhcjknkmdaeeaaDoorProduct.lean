/-
  A product, digit by digit, and what stands sixteen digits above: 38 times as much. Pure.
-/
import Derived.Test.YthhcjknkmdaeeaaDoorDigits
namespace Go.Proofs.YthhcjknkmdaeeaaDoor

/-- All digits' sums behind the first i rows, and k digits of the next. -/
structure Prods (X Y : List Nat) (i k : Nat) (L : List Nat) : Prop where
  len : L.length = 32
  val : dv L = dv (X.take i) * dv Y + X.getD i 0 * 65536 ^ i * dv (Y.take k)
  low : ∀ j, L.getD j 0 ≤ (if j < i + k then i + 1 else i) * 4294836225

theorem Prods.start (X Y : List Nat) : Prods X Y 0 0 (List.replicate 32 0) := by
  refine ⟨by simp, by rw [dv_replicate]; simp [dv], fun j => ?_⟩
  have : (List.replicate 32 0).getD j 0 = 0 := by
    rw [List.getD_eq_getElem?_getD, List.getElem?_replicate]; split <;> rfl
  omega
theorem getD_lt {X : List Nat} (h : ∀ x ∈ X, x < 65536) (i : Nat) : X.getD i 0 ≤ 65535 := by
  rw [List.getD_eq_getElem?_getD]
  cases hg : X[i]? with
  | none => simp
  | some y => have := h y (List.mem_of_getElem? hg); simp only [Option.getD_some]; omega
theorem Prods.step {X Y : List Nat} {i k : Nat} {L : List Nat} (h : Prods X Y i k L) (hX : ∀ x ∈ X, x < 65536) (hY : ∀ y ∈ Y, y < 65536) (hi : i < 16) (hk : k < 16) (hYl : Y.length = 16) :
    Prods X Y i (k + 1) (L.set (i + k) (L.getD (i + k) 0 + X.getD i 0 * Y.getD k 0)) := by
  have hj : i + k < L.length := by rw [h.len]; omega
  have eL : L.getD (i + k) 0 = L[i + k] := by rw [List.getD_eq_getElem?_getD, List.getElem?_eq_getElem hj, Option.getD_some]
  have eY : Y.getD k 0 = Y[k]'(by omega) := by rw [List.getD_eq_getElem?_getD, List.getElem?_eq_getElem (by omega), Option.getD_some]
  refine ⟨by rw [List.length_set, h.len], ?_, fun j => ?_⟩
  · rw [eL, dv_set _ _ _ hj, h.val, dv_take_succ Y (by omega), ← eY, Nat.pow_add, Nat.mul_add, Nat.add_assoc]
    congr 2
    rw [Nat.mul_assoc, Nat.mul_assoc, ← Nat.mul_assoc (Y.getD k 0), Nat.mul_comm (Y.getD k 0), Nat.mul_assoc]
  · by_cases e : j = i + k
    · subst e
      have h1 := h.low (i + k)
      rw [if_neg (by omega)] at h1
      rw [if_pos (by omega), List.getD_eq_getElem?_getD, List.getElem?_set_self hj, Option.getD_some]
      have : X.getD i 0 * Y.getD k 0 ≤ 65535 * 65535 := Nat.mul_le_mul (getD_lt hX i) (getD_lt hY k)
      omega
    · have h1 := h.low j
      rw [List.getD_eq_getElem?_getD, List.getElem?_set_ne (by omega), ← List.getD_eq_getElem?_getD]
      by_cases h2 : j < i + k
      · rw [if_pos h2] at h1; rw [if_pos (by omega)]; exact h1
      · rw [if_neg h2] at h1; rw [if_neg (by omega)]; exact h1
theorem Prods.row {X Y : List Nat} {i : Nat} {L : List Nat} (h : Prods X Y i 16 L) (hi : i < X.length) (hYl : Y.length = 16) : Prods X Y (i + 1) 0 L := by
  have eX : X.getD i 0 = X[i] := by rw [List.getD_eq_getElem?_getD, List.getElem?_eq_getElem hi, Option.getD_some]
  refine ⟨h.len, ?_, fun j => ?_⟩
  · rw [h.val, dv_take_succ X hi, eX, show Y.take 16 = Y from List.take_of_length_le (by omega), List.take_zero, Nat.add_mul]
    simp [dv]
  · have h1 := h.low j
    have q1 : (if j < i + 16 then i + 1 else i) ≤ i + 1 := by split <;> omega
    have q2 : i + 1 ≤ (if j < i + 1 + 0 then i + 1 + 1 else i + 1) := by split <;> omega
    exact Nat.le_trans h1 (Nat.mul_le_mul_right _ (Nat.le_trans q1 q2))
theorem Prods.low_le {X Y : List Nat} {i : Nat} {L : List Nat} (h : Prods X Y i 0 L) (j : Nat) : L.getD j 0 ≤ (i + 1) * 4294836225 := by
  have q1 : (if j < i + 0 then i + 1 else i) ≤ i + 1 := by split <;> omega
  exact Nat.le_trans (h.low j) (Nat.mul_le_mul_right _ q1)
theorem Prods.done {X Y L : List Nat} (h : Prods X Y 16 0 L) (hX : X.length = 16) : dv L = dv X * dv Y ∧ ∀ j, L.getD j 0 ≤ (16 + 1) * 4294836225 := by
  refine ⟨?_, fun j => ?_⟩
  · have := h.val
    rw [show X.take 16 = X from List.take_of_length_le (by omega), List.take_zero] at this
    simpa [dv] using this
  · exact h.low_le j

/-- Sixteen digits, and 38 times what stands above. -/
def lows (L : List Nat) : List Nat := (List.range 16).map fun i => L.getD i 0 + 38 * L.getD (i + 16) 0
theorem lows_length (L : List Nat) : (lows L).length = 16 := by simp [lows]
theorem lows_get (L : List Nat) {i : Nat} (h : i < (lows L).length) : (lows L)[i] = L.getD i 0 + 38 * L.getD (i + 16) 0 := by simp [lows]
theorem dv_lin {α : Type} (f g : α → Nat) (c : Nat) : ∀ l : List α, dv (l.map fun i => f i + c * g i) = dv (l.map f) + c * dv (l.map g)
  | [] => rfl
  | a :: l => by
    simp only [List.map_cons, dv, dv_lin f g c l, Nat.mul_add, Nat.mul_left_comm c 65536]
    omega
theorem dv_lows {L : List Nat} (h : L.length = 32) : dv (lows L) = dv (L.take 16) + 38 * dv (L.drop 16) := by
  have e1 : ((List.range 16).map fun i => L.getD i 0) = L.take 16 := by
    refine List.ext_getElem (by simp [h]) fun i h1 h2 => ?_
    simp only [List.getElem_map, List.getElem_range, List.getElem_take]
    have : i < 16 := by simpa using h1
    rw [List.getD_eq_getElem?_getD, List.getElem?_eq_getElem (by omega), Option.getD_some]
  have e2 : ((List.range 16).map fun i => L.getD (i + 16) 0) = L.drop 16 := by
    refine List.ext_getElem (by simp [h]) fun i h1 h2 => ?_
    simp only [List.getElem_map, List.getElem_range, List.getElem_drop]
    have : i < 16 := by simpa using h1
    rw [List.getD_eq_getElem?_getD, List.getElem?_eq_getElem (by omega), Option.getD_some]
    simp only [Nat.add_comm]
  unfold lows
  rw [dv_lin, e1, e2]
theorem toF_lows {L : List Nat} (h : L.length = 32) : toF (dv (lows L)) = toF (dv L) := by
  rw [dv_lows h, dv_half L 16, h, show min 16 32 = 16 by rfl, two256, toF_eq,
    show dv (L.take 16) + (2 * PP + 38) * dv (L.drop 16) = dv (L.take 16) + 38 * dv (L.drop 16) + PP * (2 * dv (L.drop 16)) by
      rw [Nat.add_mul, Nat.mul_left_comm PP, Nat.mul_assoc]; omega, Nat.add_mul_mod_self_left]
theorem lows_lt {L : List Nat} (h : ∀ j, L.getD j 0 ≤ (16 + 1) * 4294836225) : ∀ x ∈ lows L, x < 4398046511104 := fun x hx => by
  obtain ⟨i, _, rfl⟩ := List.mem_map.1 hx
  have h1 := h i
  have h2 := h (i + 16)
  omega

/-- The whole product: what comes out has digits below 65536, and is the product modulo P. -/
theorem product {x y : Nat} {L : List Nat} (hx : x < 65536 ^ 16) (hy : y < 65536 ^ 16) (h : Prods (digits x 16) (digits y 16) 16 0 L) :
    (∀ d ∈ round38 (round38 (round38 (lows L))), d < 65536) ∧ (round38 (round38 (round38 (lows L)))).length = 16 ∧ toF (dv (round38 (round38 (round38 (lows L))))) = toF x * toF y := by
  obtain ⟨h1, h2⟩ := h.done (digits_length _ _)
  obtain ⟨r1, r2⟩ := three_rounds (lows_length L) (lows_lt h2)
  refine ⟨r1, by rw [round38_length, round38_length, round38_length, lows_length], ?_⟩
  rw [r2, toF_lows h.len, h1, dv_digits, dv_digits, Nat.mod_eq_of_lt hx, Nat.mod_eq_of_lt hy, toF_mul]
end Go.Proofs.YthhcjknkmdaeeaaDoor
