/-
  Sums and differences, limb by limb; which number is less. Pure.
-/
import Derived.Test.YthhcjknkmdaeeaaDoorDigits
namespace Go.Proofs.YthhcjknkmdaeeaaDoor

def wv : List Nat → Nat
  | [] => 0
  | x :: xs => x + 18446744073709551616 * wv xs
def Small64 (l : List Nat) : Prop := ∀ x ∈ l, x < 18446744073709551616
theorem Small64.tail {x : Nat} {l : List Nat} (h : Small64 (x :: l)) : Small64 l := fun y hy => h y (by simp [hy])
theorem Small64.head {x : Nat} {l : List Nat} (h : Small64 (x :: l)) : x < 18446744073709551616 := h x (by simp)
theorem wv_lt : ∀ (l : List Nat), Small64 l → wv l < 18446744073709551616 ^ l.length
  | [], _ => by simp [wv]
  | x :: l, h => by
    have h1 := wv_lt l h.tail
    have h2 := h.head
    simp only [wv, List.length_cons, Nat.pow_succ]
    omega
theorem limbs_wv (a b c d : Nat) : limbs a b c d = wv [a, b, c, d] := by simp only [limbs, wv]; omega
theorem wv_lims {n : Nat} (h : n < 115792089237316195423570985008687907853269984665640564039457584007913129639936) : wv [limb n 0, limb n 1, limb n 2, limb n 3] = n := by
  rw [← limbs_wv, limbs_limb h]

/-! Differences: the limbs, and whether one is borrowed. -/
def subs : List Nat → List Nat → Nat → List Nat × Nat
  | x :: xs, y :: ys, c => ((x + 18446744073709551616 - (y + c)) % 18446744073709551616 :: (subs xs ys (if x < y + c then 1 else 0)).1, (subs xs ys (if x < y + c then 1 else 0)).2)
  | _, _, c => ([], c)
theorem subs_small : ∀ (a b : List Nat) (c : Nat), Small64 (subs a b c).1
  | x :: xs, y :: ys, c => fun z hz => by
    simp only [subs, List.mem_cons] at hz
    rcases hz with rfl | hz
    · exact Nat.mod_lt _ (by omega)
    · exact subs_small xs ys _ z hz
  | [], _, _ => fun z hz => by simp [subs] at hz
  | _ :: _, [], _ => fun z hz => by simp [subs] at hz
theorem subs_length : ∀ (a b : List Nat) (c : Nat), a.length = b.length → (subs a b c).1.length = a.length
  | x :: xs, y :: ys, c, h => by simp only [subs, List.length_cons]; rw [subs_length xs ys _ (by simpa using h)]
  | [], [], _, _ => rfl
theorem subs_bit : ∀ (a b : List Nat) (c : Nat), c ≤ 1 → (subs a b c).2 ≤ 1
  | x :: xs, y :: ys, c, _ => subs_bit xs ys _ (by split <;> omega)
  | [], _, c, h => by simpa [subs] using h
  | _ :: _, [], c, h => by simpa [subs] using h
theorem subs_eq : ∀ (a b : List Nat) (c : Nat), Small64 a → Small64 b → c ≤ 1 → a.length = b.length → wv (subs a b c).1 + wv b + c = wv a + 18446744073709551616 ^ a.length * (subs a b c).2
  | x :: xs, y :: ys, c, ha, hb, hc, hl => by
    have hx := ha.head
    have hy := hb.head
    have ih := subs_eq xs ys (if x < y + c then 1 else 0) ha.tail hb.tail (by split <;> omega) (by simpa using hl)
    simp only [subs, wv, List.length_cons, Nat.pow_succ]
    rw [Nat.mul_comm (18446744073709551616 ^ xs.length) 18446744073709551616, Nat.mul_assoc]
    generalize 18446744073709551616 ^ xs.length * (subs xs ys (if x < y + c then 1 else 0)).2 = q at *
    generalize wv (subs xs ys (if x < y + c then 1 else 0)).1 = r at *
    by_cases h : x < y + c
    · rw [if_pos h] at ih
      omega
    · rw [if_neg h] at ih
      omega
  | [], [], c, _, _, _, _ => by simp [subs, wv]
theorem subs_snoc : ∀ (a b : List Nat) (x y c : Nat), a.length = b.length →
    subs (a ++ [x]) (b ++ [y]) c = ((subs a b c).1 ++ [(x + 18446744073709551616 - (y + (subs a b c).2)) % 18446744073709551616], if x < y + (subs a b c).2 then 1 else 0)
  | x' :: a, y' :: b, x, y, c, h => by simp only [List.cons_append, subs, subs_snoc a b x y _ (by simpa using h)]; rfl
  | [], [], x, y, c, _ => rfl

/-! Sums. -/
def adds : List Nat → List Nat → Nat → List Nat × Nat
  | x :: xs, y :: ys, c => ((x + y + c) % 18446744073709551616 :: (adds xs ys ((x + y + c) / 18446744073709551616)).1, (adds xs ys ((x + y + c) / 18446744073709551616)).2)
  | _, _, c => ([], c)
theorem adds_small : ∀ (a b : List Nat) (c : Nat), Small64 (adds a b c).1
  | x :: xs, y :: ys, c => fun z hz => by
    simp only [adds, List.mem_cons] at hz
    rcases hz with rfl | hz
    · exact Nat.mod_lt _ (by omega)
    · exact adds_small xs ys _ z hz
  | [], _, _ => fun z hz => by simp [adds] at hz
  | _ :: _, [], _ => fun z hz => by simp [adds] at hz
theorem adds_length : ∀ (a b : List Nat) (c : Nat), a.length = b.length → (adds a b c).1.length = a.length
  | x :: xs, y :: ys, c, h => by simp only [adds, List.length_cons]; rw [adds_length xs ys _ (by simpa using h)]
  | [], [], _, _ => rfl
theorem adds_bit : ∀ (a b : List Nat) (c : Nat), Small64 a → Small64 b → c ≤ 1 → (adds a b c).2 ≤ 1
  | x :: xs, y :: ys, c, ha, hb, hc => adds_bit xs ys _ ha.tail hb.tail (by have := ha.head; have := hb.head; omega)
  | [], _, c, _, _, h => by simpa [adds] using h
  | _ :: _, [], c, _, _, h => by simpa [adds] using h
theorem adds_eq : ∀ (a b : List Nat) (c : Nat), a.length = b.length → wv (adds a b c).1 + 18446744073709551616 ^ a.length * (adds a b c).2 = wv a + wv b + c
  | x :: xs, y :: ys, c, hl => by
    have ih := adds_eq xs ys ((x + y + c) / 18446744073709551616) (by simpa using hl)
    simp only [adds, wv, List.length_cons, Nat.pow_succ]
    rw [Nat.mul_comm (18446744073709551616 ^ xs.length) 18446744073709551616, Nat.mul_assoc]
    omega
  | [], [], c, _ => by simp [adds, wv]
theorem adds_snoc : ∀ (a b : List Nat) (x y c : Nat), a.length = b.length →
    adds (a ++ [x]) (b ++ [y]) c = ((adds a b c).1 ++ [(x + y + (adds a b c).2) % 18446744073709551616], (x + y + (adds a b c).2) / 18446744073709551616)
  | x' :: a, y' :: b, x, y, c, h => by simp only [List.cons_append, adds, adds_snoc a b x y _ (by simpa using h)]
  | [], [], x, y, c, _ => by simp [adds]
/-- How a carry is told. -/
theorem carry_told {x y c : Nat} (hx : x < 18446744073709551616) (hy : y < 18446744073709551616) (hc : c ≤ 1) :
    (x + y + c) / 18446744073709551616 = if (x + y + c) % 18446744073709551616 < x ∨ ((x + y + c) % 18446744073709551616 = x ∧ c = 1) then 1 else 0 := by
  split <;> omega
theorem borrow_told {x y c : Nat} (hc : c ≤ 1) : (if x < y + c then 1 else 0) = (if x < y ∨ (x = y ∧ c = 1) then 1 else 0) := by
  by_cases h : x < y + c
  · rw [if_pos h, if_pos (by omega)]
  · rw [if_neg h, if_neg (by omega)]

/-! Which is less: the highest limb that differs tells. -/
theorem hi_split (n i : Nat) : n / 18446744073709551616 ^ i = 18446744073709551616 * (n / 18446744073709551616 ^ (i + 1)) + limb n i := by
  unfold limb
  rw [Nat.pow_succ, ← Nat.div_div_eq_div_mul]
  omega
theorem less_at {m n i : Nat} (h : m / 18446744073709551616 ^ (i + 1) = n / 18446744073709551616 ^ (i + 1)) (hl : limb m i < limb n i) : m < n := by
  have h1 := hi_split m i
  have h2 := hi_split n i
  rw [h] at h1
  refine Nat.lt_of_not_le fun hc => ?_
  have := Nat.div_le_div_right (c := 18446744073709551616 ^ i) hc
  omega
theorem same_at {m n i : Nat} (h : m / 18446744073709551616 ^ (i + 1) = n / 18446744073709551616 ^ (i + 1)) (hl : limb m i = limb n i) : m / 18446744073709551616 ^ i = n / 18446744073709551616 ^ i := by
  rw [hi_split m i, hi_split n i, h, hl]
theorem hi_top {n : Nat} (h : n < 115792089237316195423570985008687907853269984665640564039457584007913129639936) : n / 18446744073709551616 ^ 4 = 0 :=
  Nat.div_eq_of_lt (by rw [show (18446744073709551616 : Nat) ^ 4 = 115792089237316195423570985008687907853269984665640564039457584007913129639936 by decide]; exact h)

/-- A whole difference, of two numbers of four limbs; a whole sum. -/
theorem subs_whole {m n : Nat} (hm : m < 115792089237316195423570985008687907853269984665640564039457584007913129639936) (h : n ≤ m) :
    wv (subs [limb m 0, limb m 1, limb m 2, limb m 3] [limb n 0, limb n 1, limb n 2, limb n 3] 0).1 = m - n := by
  have sm : ∀ k, Small64 [limb k 0, limb k 1, limb k 2, limb k 3] := fun k x hx => by
    simp only [List.mem_cons, List.not_mem_nil, or_false] at hx
    rcases hx with rfl | rfl | rfl | rfl <;> exact limb_lt _ _
  have e := subs_eq _ _ 0 (sm m) (sm n) (by omega) rfl
  have hlt := wv_lt _ (subs_small [limb m 0, limb m 1, limb m 2, limb m 3] [limb n 0, limb n 1, limb n 2, limb n 3] 0)
  rw [subs_length [limb m 0, limb m 1, limb m 2, limb m 3] [limb n 0, limb n 1, limb n 2, limb n 3] 0 rfl] at hlt
  have hb := subs_bit [limb m 0, limb m 1, limb m 2, limb m 3] [limb n 0, limb n 1, limb n 2, limb n 3] 0 (by omega)
  rw [wv_lims hm, wv_lims (by omega)] at e
  simp only [List.length_cons, List.length_nil, Nat.zero_add, Nat.reduceAdd] at e hlt
  have hp : (18446744073709551616 : Nat) ^ 4 = 115792089237316195423570985008687907853269984665640564039457584007913129639936 := by decide
  rw [hp] at e hlt
  generalize (subs [limb m 0, limb m 1, limb m 2, limb m 3] [limb n 0, limb n 1, limb n 2, limb n 3] 0).2 = c at *
  generalize wv (subs [limb m 0, limb m 1, limb m 2, limb m 3] [limb n 0, limb n 1, limb n 2, limb n 3] 0).1 = r at *
  omega
theorem adds_whole {m n : Nat} (h : m + n < 115792089237316195423570985008687907853269984665640564039457584007913129639936) :
    wv (adds [limb m 0, limb m 1, limb m 2, limb m 3] [limb n 0, limb n 1, limb n 2, limb n 3] 0).1 = m + n := by
  have e := adds_eq [limb m 0, limb m 1, limb m 2, limb m 3] [limb n 0, limb n 1, limb n 2, limb n 3] 0 rfl
  rw [wv_lims (by omega), wv_lims (by omega)] at e
  simp only [List.length_cons, List.length_nil, Nat.zero_add, Nat.reduceAdd] at e
  have hp : (18446744073709551616 : Nat) ^ 4 = 115792089237316195423570985008687907853269984665640564039457584007913129639936 := by decide
  rw [hp] at e
  generalize (adds [limb m 0, limb m 1, limb m 2, limb m 3] [limb n 0, limb n 1, limb n 2, limb n 3] 0).2 = c at *
  generalize wv (adds [limb m 0, limb m 1, limb m 2, limb m 3] [limb n 0, limb n 1, limb n 2, limb n 3] 0).1 = r at *
  omega
end Go.Proofs.YthhcjknkmdaeeaaDoor
