/-
  What the program tries as a root of a quotient: where it, or a root of -1 times it, is one, that is the root; else there is none. Pure.
-/
import Derived.Test.YtcidbiceeinglaaDoorField
namespace Go.Proofs.YtcidbiceeinglaaDoor

def uv3 (u v : F) : F := u * (v * fpow v (2 ^ 1))
def uv7 (u v : F) : F := uv3 u v * fpow v (2 ^ 2)
def near (u v : F) : F := uv3 u v * (fpow (fpow (uv7 u v) (2 ^ 250 - 1)) (2 ^ 2) * uv7 u v)
theorem pow_two1 (v : F) : fpow v (2 ^ 1) = v * v := by rw [Nat.pow_one, fpow_two]
theorem pow_two2 (v : F) : fpow v (2 ^ 2) = v * v * (v * v) := by rw [show 2 ^ 2 = 2 + 2 from rfl, fpow_add, fpow_two]
theorem near_eq (u v : F) : near u v = uv3 u v * fpow (uv7 u v) ((PP - 5) / 8) := by
  unfold near
  generalize uv7 u v = x
  rw [← fpow_mul, ← fpow_succ, show (2 ^ 250 - 1) * 2 ^ 2 + 1 = (PP - 5) / 8 by decide]
theorem near_sq (u v : F) : v * (near u v * near u v) = u * fpow (uv7 u v) ((PP - 1) / 4) := by
  rw [near_eq, show (PP - 1) / 4 = (PP - 5) / 8 + (PP - 5) / 8 + 1 by decide, fpow_succ, fpow_add]
  generalize fpow (uv7 u v) ((PP - 5) / 8) = p
  unfold uv7 uv3
  rw [pow_two1, pow_two2]
  grind
theorem uv7_sq {u v x : F} (h : v * (x * x) = u) : uv7 u v = (v * v * (v * v) * x) * (v * v * (v * v) * x) := by
  unfold uv7 uv3
  rw [pow_two1, pow_two2, ← h]
  grind
theorem near_zero (u : F) : near u 0 = 0 := by
  rw [near_eq]
  have h : uv3 u 0 = 0 := by unfold uv3; generalize fpow 0 (2 ^ 1) = p; grind
  rw [h]
  generalize fpow (uv7 u 0) ((PP - 5) / 8) = p
  grind
def nearRoot (u v i : F) : F × Bool :=
  if v * (near u v * near u v) = u then (even (near u v), true) else if v * (near u v * near u v) = -u then (even (near u v * i), true) else (0, false)
theorem F.neg_zero' {u : F} (h : (0 : F) = -u) : u = 0 := by grind
theorem F.zm (y : F) : 0 * (y * y) = 0 := by grind
theorem F.z_one (u : F) : u * 1 = u := by grind
theorem F.z_neg (u : F) : u * -1 = -u := by grind
theorem F.by_i {v y i u : F} (h : v * (y * y) = -u) (hi : i * i = -1) : v * ((y * i) * (y * i)) = u := by grind
theorem nearRoot_eq (u v i : F) (hi : i * i = -1) : nearRoot u v i = froot u v := by
  unfold nearRoot
  by_cases hv : v = 0
  · subst hv
    rw [near_zero]
    have e0 : even 0 = 0 := rfl
    rw [F.zm]
    by_cases hu : (0 : F) = u
    · rw [if_pos hu, e0, froot_unique (x := 0) (by rw [F.zm]; exact hu) fodd_zero (fun _ => rfl)]
    · rw [if_neg hu, if_neg (fun h => hu (F.neg_zero' h).symm), froot_only (fun x => by rw [F.zm]; exact hu)]
  · have hs := near_sq u v
    have hz := near_eq u v
    by_cases h1 : v * (near u v * near u v) = u
    · rw [if_pos h1, froot_unique (x := even (near u v)) (by rw [even_sq]; exact h1) (even_even _) (fun h => absurd h hv)]
    · rw [if_neg h1]
      by_cases h2 : v * (near u v * near u v) = -u
      · rw [if_pos h2, froot_unique (x := even (near u v * i)) (by rw [even_sq]; exact F.by_i h2 hi) (even_even _) (fun h => absurd h hv)]
      · rw [if_neg h2, froot_only (fun x hx => ?_)]
        have h7 := uv7_sq hx
        by_cases hn : v * v * (v * v) * x = 0
        · rw [hn, F.zmul] at h7
          rw [h7, zero_fpow (by decide), F.mulz] at hs
          have hx0 : x = 0 := by
            rcases F.mul_zero' hn with h | h
            · exact absurd h (F.mul_ne (F.mul_ne hv hv) (F.mul_ne hv hv))
            · exact h
          rw [hx0, F.zmul, F.mulz] at hx
          exact h1 (hs.trans hx)
        · have hc : chi (uv7 u v) = 1 := by rw [h7]; exact chi_of_sq hn
          have hq := quarter_sq (uv7 u v)
          rw [hc] at hq
          rcases sq_eq (show fpow (uv7 u v) ((PP - 1) / 4) * fpow (uv7 u v) ((PP - 1) / 4) = 1 * 1 by rw [hq, F.pp]) with h | h
          · rw [h, F.z_one] at hs; exact h1 hs
          · rw [h, F.z_neg] at hs; exact h2 hs
end Go.Proofs.YtcidbiceeinglaaDoor
