/-
  Numbers modulo 2^255 - 19: a field, in which -1 is a square; roots. Pure.
-/
import Derived.Test.YthhcjknkmdaeeaaDoorPrime
namespace Go.Proofs.YthhcjknkmdaeeaaDoor

instance : NeZero PP := ⟨by decide⟩
abbrev F := Fin PP

def toF (n : Nat) : F := ⟨n % PP, Nat.mod_lt _ (by decide)⟩
theorem toF_val (n : Nat) : (toF n).val = n % PP := rfl
theorem toF_of (a : F) : toF a.val = a := Fin.ext (Nat.mod_eq_of_lt a.isLt)
theorem toF_mod (n : Nat) : toF (n % PP) = toF n := Fin.ext (Nat.mod_mod _ _)
theorem toF_eq {m n : Nat} : toF m = toF n ↔ m % PP = n % PP := ⟨fun h => congrArg Fin.val h, fun h => Fin.ext h⟩
theorem toF_zero {n : Nat} : toF n = 0 ↔ PP ∣ n := ⟨fun h => Nat.dvd_of_mod_eq_zero (congrArg Fin.val h), fun h => Fin.ext (Nat.mod_eq_zero_of_dvd h)⟩
theorem F.val_add (a b : F) : (a + b).val = (a.val + b.val) % PP := Fin.val_add a b
theorem F.val_mul (a b : F) : (a * b).val = a.val * b.val % PP := Fin.val_mul a b
theorem F.val_neg (a : F) : (-a).val = (PP - a.val) % PP := rfl
theorem F.val_zero : (0 : F).val = 0 := rfl
theorem F.val_one : (1 : F).val = 1 := rfl
theorem toF_add (m n : Nat) : toF (m + n) = toF m + toF n := Fin.ext (by rw [F.val_add, toF_val, toF_val, toF_val, Nat.add_mod])
theorem toF_mul (m n : Nat) : toF (m * n) = toF m * toF n := Fin.ext (by rw [F.val_mul, toF_val, toF_val, toF_val, Nat.mul_mod])

theorem F.ne01 : (0 : F) ≠ 1 := fun h => absurd (congrArg Fin.val h) (by decide)
theorem F.mul_zero' {a b : F} (h : a * b = 0) : a = 0 ∨ b = 0 := by
  have h1 : PP ∣ a.val * b.val := Nat.dvd_of_mod_eq_zero (congrArg Fin.val h)
  have small : ∀ c : F, PP ∣ c.val → c = 0 := fun c hc => by rw [← toF_of c, toF_zero]; exact hc
  rcases pr_PP.euclid h1 with h | h
  · exact Or.inl (small a h)
  · exact Or.inr (small b h)
theorem F.mul_ne {a b : F} (ha : a ≠ 0) (hb : b ≠ 0) : a * b ≠ 0 := fun h => (F.mul_zero' h).elim ha hb
theorem F.cancel {a b c : F} (ha : a ≠ 0) (h : a * b = a * c) : b = c := by
  have h1 : a * (b - c) = 0 := by grind
  rcases F.mul_zero' h1 with h | h
  · exact absurd h ha
  · grind
theorem F.two_ne : (2 : F) ≠ 0 := fun h => absurd (congrArg Fin.val h) (by decide)

/-! Powers. -/
def fpow (a : F) : Nat → F
  | 0 => 1
  | n + 1 => fpow a n * a
theorem fpow_zero (a : F) : fpow a 0 = 1 := rfl
theorem fpow_succ (a : F) (n : Nat) : fpow a (n + 1) = fpow a n * a := rfl
theorem fpow_one (a : F) : fpow a 1 = a := by rw [fpow_succ, fpow_zero]; grind
theorem fpow_two (a : F) : fpow a 2 = a * a := by rw [fpow_succ, fpow_one]
theorem fpow_add (a : F) (m : Nat) : ∀ n, fpow a (m + n) = fpow a m * fpow a n
  | 0 => by rw [Nat.add_zero, fpow_zero]; grind
  | n + 1 => by rw [← Nat.add_assoc, fpow_succ, fpow_succ, fpow_add a m n]; grind
theorem fpow_mul (a : F) (m : Nat) : ∀ n, fpow a (m * n) = fpow (fpow a m) n
  | 0 => by rw [Nat.mul_zero, fpow_zero, fpow_zero]
  | n + 1 => by rw [Nat.mul_succ, fpow_add, fpow_mul a m n, fpow_succ]
theorem mul_fpow (a b : F) : ∀ n, fpow (a * b) n = fpow a n * fpow b n
  | 0 => by rw [fpow_zero, fpow_zero, fpow_zero]; grind
  | n + 1 => by rw [fpow_succ, fpow_succ, fpow_succ, mul_fpow a b n]; grind
theorem one_fpow : ∀ n, fpow 1 n = 1
  | 0 => rfl
  | n + 1 => by rw [fpow_succ, one_fpow n]; grind
theorem zero_fpow {n : Nat} (h : 0 < n) : fpow 0 n = 0 := by
  obtain ⟨m, rfl⟩ : ∃ m, n = m + 1 := ⟨n - 1, by omega⟩
  rw [fpow_succ]; grind
theorem fpow_val (a : F) : ∀ n, (fpow a n).val = a.val ^ n % PP
  | 0 => (Nat.mod_eq_of_lt (by decide : 1 < PP)).symm
  | n + 1 => by rw [fpow_succ, F.val_mul, fpow_val a n, Nat.pow_succ, Nat.mod_mul_mod]
theorem fpow_ne {a : F} (ha : a ≠ 0) : ∀ n, fpow a n ≠ 0
  | 0 => fun h => F.ne01 h.symm
  | n + 1 => F.mul_ne (fpow_ne ha n) ha

theorem fermatF {a : F} (ha : a ≠ 0) : fpow a (PP - 1) = 1 := by
  refine Fin.ext ?_
  rw [fpow_val]
  exact pr_PP.fermat_one fun h => ha (by rw [← toF_of a, toF_zero]; exact h)

/-- What a number is multiplied by to be 1; 0 of 0. -/
def finv (a : F) : F := fpow a (PP - 2)
theorem finv_zero : finv 0 = 0 := zero_fpow (by decide)
theorem mul_finv {a : F} (ha : a ≠ 0) : a * finv a = 1 := by
  have := fermatF ha
  rw [show PP - 1 = (PP - 2) + 1 by decide, fpow_succ] at this
  unfold finv
  grind
theorem finv_ne {a : F} (ha : a ≠ 0) : finv a ≠ 0 := fpow_ne ha _
theorem finv_eq {a b : F} (h : a * b = 1) : finv a = b := by
  have ha : a ≠ 0 := by rintro rfl; exact F.ne01 (by grind)
  exact F.cancel ha (by rw [mul_finv ha, h])
theorem finv_mul (a b : F) : finv (a * b) = finv a * finv b := mul_fpow a b _
theorem finv_finv (a : F) : finv (finv a) = a := by
  by_cases ha : a = 0
  · rw [ha, finv_zero, finv_zero]
  · exact finv_eq (by have := mul_finv ha; grind)

/-! Squares. -/
theorem sq_eq {x y : F} (h : x * x = y * y) : x = y ∨ x = -y := by
  have h1 : (x - y) * (x + y) = 0 := by grind
  rcases F.mul_zero' h1 with h | h
  · exact Or.inl (by grind)
  · exact Or.inr (by grind)
def chi (a : F) : F := fpow a ((PP - 1) / 2)
theorem chi_mul (a b : F) : chi (a * b) = chi a * chi b := mul_fpow a b _
theorem chi_zero : chi 0 = 0 := zero_fpow (by decide)
theorem chi_sq {a : F} (ha : a ≠ 0) : chi a * chi a = 1 := by
  unfold chi
  rw [← fpow_add, show (PP - 1) / 2 + (PP - 1) / 2 = PP - 1 by decide]
  exact fermatF ha
theorem chi_or {a : F} (ha : a ≠ 0) : chi a = 1 ∨ chi a = -1 := sq_eq (by rw [chi_sq ha]; grind)
theorem one_ne_neg : (1 : F) ≠ -1 := fun h => absurd (congrArg Fin.val h) (by decide)
theorem chi_of_sq {x : F} (hx : x ≠ 0) : chi (x * x) = 1 := by rw [chi_mul]; exact chi_sq hx

/-- A root of -1. -/
def fI : F := fpow 2 ((PP - 1) / 4)
theorem fI_sq : fI * fI = -1 := by
  unfold fI
  rw [← fpow_add, show (PP - 1) / 4 + (PP - 1) / 4 = (PP - 1) / 2 by decide]
  have h := powMod_eq PP 256 2 ((PP - 1) / 2) 1 (by decide)
  have h3 : powMod PP 256 2 ((PP - 1) / 2) 1 = PP - 1 := by decide +kernel
  rw [Nat.one_mul, h3] at h
  refine Fin.ext ?_
  rw [fpow_val, show ((2 : F).val) = 2 from rfl, ← h]
  rfl

/-- What is a root of q, or of -q, if q is a square. -/
def half8 (q : F) : F := fpow q ((PP + 3) / 8)
theorem half8_sq (q : F) : half8 q * half8 q = q * fpow q ((PP - 1) / 4) := by
  unfold half8
  rw [← fpow_add, show (PP + 3) / 8 + (PP + 3) / 8 = (PP - 1) / 4 + 1 by decide, fpow_succ]
  grind
theorem quarter_sq (q : F) : fpow q ((PP - 1) / 4) * fpow q ((PP - 1) / 4) = chi q := by
  unfold chi
  rw [← fpow_add, show (PP - 1) / 4 + (PP - 1) / 4 = (PP - 1) / 2 by decide]

theorem half8_root {q x : F} (h : x * x = q) : half8 q * half8 q = q ∨ (half8 q * fI) * (half8 q * fI) = q := by
  by_cases hx : x = 0
  · subst hx
    have hq : q = 0 := by grind
    subst hq
    left
    rw [half8_sq]; grind
  · have hc : chi q = 1 := by rw [← h]; exact chi_of_sq hx
    have h1 := half8_sq q
    have h2 := quarter_sq q
    have h3 := fI_sq
    rw [hc] at h2
    rcases sq_eq (show fpow q ((PP - 1) / 4) * fpow q ((PP - 1) / 4) = 1 * 1 by rw [h2]; grind) with h4 | h4
    · left; rw [h1, h4]; grind
    · right; rw [h4] at h1; grind

/-- A number is a square just if it is 0, or its power is 1. -/
theorem sq_iff (q : F) : (∃ x, x * x = q) ↔ q = 0 ∨ chi q = 1 := by
  constructor
  · rintro ⟨x, rfl⟩
    by_cases hx : x = 0
    · left; subst hx; grind
    · exact Or.inr (chi_of_sq hx)
  · rintro (rfl | h)
    · exact ⟨0, by grind⟩
    · have h1 := half8_sq q
      have h2 := quarter_sq q
      have h3 := fI_sq
      rw [h] at h2
      rcases sq_eq (show fpow q ((PP - 1) / 4) * fpow q ((PP - 1) / 4) = 1 * 1 by rw [h2]; grind) with h4 | h4
      · exact ⟨half8 q, by rw [h1, h4]; grind⟩
      · exact ⟨half8 q * fI, by rw [h4] at h1; grind⟩

/-! Odd, even. -/
def fodd (a : F) : Bool := decide (a.val % 2 = 1)
theorem fodd_neg {a : F} (ha : a ≠ 0) : fodd (-a) = !fodd a := by
  have h0 : a.val ≠ 0 := fun h => ha (Fin.ext h)
  have hlt := a.isLt
  have h1 : (-a).val = PP - a.val := by rw [F.val_neg]; exact Nat.mod_eq_of_lt (by omega)
  have hp : PP % 2 = 1 := by decide
  unfold fodd
  rw [h1]
  by_cases h : a.val % 2 = 1
  · rw [decide_eq_true h, decide_eq_false (by omega)]; rfl
  · rw [decide_eq_false h, decide_eq_true (by omega)]; rfl
theorem fodd_zero : fodd 0 = false := rfl
def even (a : F) : F := if fodd a = true then -a else a
theorem even_even (a : F) : fodd (even a) = false := by
  unfold even
  split
  · next h =>
    have ha : a ≠ 0 := by rintro rfl; rw [fodd_zero] at h; cases h
    rw [fodd_neg ha, h]; rfl
  · next h => simpa using h
theorem even_sq (a : F) : even a * even a = a * a := by unfold even; split <;> grind
theorem even_eq {a b : F} (h : a * a = b * b) (ha : fodd a = false) (hb : fodd b = false) : a = b := by
  rcases sq_eq h with h | h
  · exact h
  · by_cases h0 : b = 0
    · subst h0; grind
    · rw [h, fodd_neg h0, hb] at ha; cases ha

/-- The even one of what x makes of u and v. -/
def rootAt (i x u v : F) : F × Bool :=
  if v * (x * x) = u then (even x, true)
  else if v * ((x * i) * (x * i)) = u then (even (x * i), true) else (0, false)
theorem rootAt_sol {i x u v : F} (h : (rootAt i x u v).2 = true) : v * ((rootAt i x u v).1 * (rootAt i x u v).1) = u ∧ fodd (rootAt i x u v).1 = false := by
  unfold rootAt at *
  by_cases h1 : v * (x * x) = u
  · rw [if_pos h1]; exact ⟨by rw [even_sq]; exact h1, even_even _⟩
  · rw [if_neg h1] at h ⊢
    by_cases h2 : v * ((x * i) * (x * i)) = u
    · rw [if_pos h2]; exact ⟨by rw [even_sq]; exact h2, even_even _⟩
    · rw [if_neg h2] at h; cases h
theorem rootAt_ok {i x u v : F} (h : v * (x * x) = u ∨ v * ((x * i) * (x * i)) = u) : (rootAt i x u v).2 = true := by
  unfold rootAt
  by_cases h1 : v * (x * x) = u
  · rw [if_pos h1]
  · rw [if_neg h1, if_pos (h.resolve_left h1)]
theorem rootAt_none {i x u v : F} (h : (rootAt i x u v).2 = false) : rootAt i x u v = (0, false) := by
  unfold rootAt at *
  by_cases h1 : v * (x * x) = u
  · rw [if_pos h1] at h; cases h
  · rw [if_neg h1] at h ⊢
    by_cases h2 : v * ((x * i) * (x * i)) = u
    · rw [if_pos h2] at h; cases h
    · rw [if_neg h2]
theorem rootAt_zero (i u v : F) : (rootAt i 0 u v).1 = 0 := by
  have e0 : even 0 = 0 := rfl
  have e1 : even (0 * i) = 0 := by rw [show (0 : F) * i = 0 by grind, e0]
  unfold rootAt
  by_cases h1 : v * ((0 : F) * 0) = u
  · rw [if_pos h1, e0]
  · rw [if_neg h1]
    by_cases h2 : v * (((0 : F) * i) * (0 * i)) = u
    · rw [if_pos h2, e1]
    · rw [if_neg h2]

/-- The even root of u, divided by v. -/
def froot (u v : F) : F × Bool := rootAt fI (half8 (u * finv v)) u v
theorem froot_sol {u v : F} (h : (froot u v).2 = true) : v * ((froot u v).1 * (froot u v).1) = u ∧ fodd (froot u v).1 = false := rootAt_sol h
theorem froot_ok {u v x : F} (h : v * (x * x) = u) : (froot u v).2 = true := by
  refine rootAt_ok ?_
  by_cases hv : v = 0
  · subst hv
    have hu : u = 0 := by grind
    left
    rw [hu]
    generalize half8 _ = y
    grind
  · have hi := mul_finv hv
    have hq : x * x = u * finv v := by grind
    have h8 := half8_root hq
    generalize half8 (u * finv v) = y at *
    generalize fI = i at *
    generalize finv v = w at *
    rcases h8 with h1 | h1
    · left; rw [h1]; grind
    · right; rw [h1]; grind
theorem froot_none {u v : F} (h : (froot u v).2 = false) : froot u v = (0, false) := rootAt_none h
theorem froot_zero (u : F) : (froot u 0).1 = 0 := by
  have h0 : u * finv 0 = 0 := by rw [finv_zero]; grind
  have h1 : half8 (u * finv 0) = 0 := by rw [h0]; exact zero_fpow (by decide)
  unfold froot
  rw [h1]
  exact rootAt_zero _ _ _

/-- There is but one answer: an even solution, 0 where v is 0. -/
theorem froot_unique {u v x : F} (h : v * (x * x) = u) (he : fodd x = false) (hv : v = 0 → x = 0) : froot u v = (x, true) := by
  have hok := froot_ok h
  obtain ⟨h1, h2⟩ := froot_sol hok
  have hx : (froot u v).1 = x := by
    by_cases h0 : v = 0
    · subst h0; rw [froot_zero, hv rfl]
    · exact even_eq (F.cancel h0 (by rw [h1, h])) h2 he
  exact Prod.ext hx hok
theorem froot_only {u v : F} (h : ∀ x, v * (x * x) ≠ u) : froot u v = (0, false) :=
  froot_none (by
    cases hc : (froot u v).2 with
    | false => rfl
    | true => exact absurd (froot_sol hc).1 (h _))

theorem F.omul (a : F) : 1 * a = a := by grind
/-- Whether there is a root of a number, by itself. -/
theorem froot_one (a : F) : (froot a 1).2 = true ↔ a = 0 ∨ chi a = 1 := by
  rw [← sq_iff]
  constructor
  · intro h
    obtain ⟨h1, _⟩ := froot_sol h
    exact ⟨_, (F.omul _).symm.trans h1⟩
  · rintro ⟨x, hx⟩
    have h1 : (1 : F) * (x * x) = a := (F.omul _).trans hx
    exact froot_ok h1
theorem F.pp : (1 : F) * 1 = 1 := by grind
theorem F.pn : (1 : F) * -1 = -1 := by grind
theorem F.np : (-1 : F) * 1 = -1 := by grind
theorem F.nn : (-1 : F) * -1 = 1 := by grind
theorem F.zmul (a : F) : 0 * a = 0 := by grind
theorem F.mulz (a : F) : a * 0 = 0 := by grind
theorem froot_both (a b : F) : (froot (a * b) 1).2 = (decide (a = 0 ∨ b = 0) || ((froot a 1).2 == (froot b 1).2)) := by
  have z : (froot 0 1).2 = true := (froot_one 0).2 (Or.inl rfl)
  by_cases ha : a = 0
  · rw [decide_eq_true (Or.inl ha), Bool.true_or, ha, F.zmul, z]
  by_cases hb : b = 0
  · rw [decide_eq_true (Or.inr hb), Bool.true_or, hb, F.mulz, z]
  rw [decide_eq_false (fun h => h.elim ha hb), Bool.false_or]
  have hab := F.mul_ne ha hb
  have n1 : ∀ c : F, c ≠ 0 → chi c = -1 → (froot c 1).2 = false := fun c hc h => by
    cases hf : (froot c 1).2 with
    | false => rfl
    | true => rcases (froot_one c).1 hf with h1 | h1
              · exact absurd h1 hc
              · exact absurd (h1.symm.trans h) one_ne_neg
  have y1 : ∀ c : F, chi c = 1 → (froot c 1).2 = true := fun c h => (froot_one c).2 (Or.inr h)
  rcases chi_or ha with h1 | h1 <;> rcases chi_or hb with h2 | h2
  · rw [y1 a h1, y1 b h2, y1 (a * b) (by rw [chi_mul, h1, h2, F.pp])]; rfl
  · rw [y1 a h1, n1 b hb h2, n1 (a * b) hab (by rw [chi_mul, h1, h2, F.pn])]; rfl
  · rw [n1 a ha h1, y1 b h2, n1 (a * b) hab (by rw [chi_mul, h1, h2, F.np])]; rfl
  · rw [n1 a ha h1, n1 b hb h2, y1 (a * b) (by rw [chi_mul, h1, h2, F.nn])]; rfl
end Go.Proofs.YthhcjknkmdaeeaaDoor
