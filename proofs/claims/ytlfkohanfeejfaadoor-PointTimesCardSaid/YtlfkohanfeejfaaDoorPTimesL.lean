/-
  The first point so many times: of a small order only where it is none.
-/
import Derived.Test.YtlfkohanfeejfaaDoorMbi
import Derived.Test.YtlfkohanfeejfaaDoorMbj
namespace Go.Proofs.YtlfkohanfeejfaaDoor
open Go.RowKit
namespace Pnt
open Crv
theorem eight_dvd {v : Nat} (h : LL ∣ 8 * v) (hv : v < LL) : v = 0 := by
  obtain ⟨m, hm⟩ := h
  have h8 : m < 8 := by
    rcases Nat.lt_or_ge m 8 with h | h
    · exact h
    · have := Nat.mul_le_mul_left LL h
      omega
  have e : LL % 8 = 5 := by decide
  rw [show LL = 8 * (LL / 8) + 5 by omega] at hm
  generalize LL / 8 = q at *
  rcases (show m = 0 ∨ m = 1 ∨ m = 2 ∨ m = 3 ∨ m = 4 ∨ m = 5 ∨ m = 6 ∨ m = 7 by omega) with rfl | rfl | rfl | rfl | rfl | rfl | rfl | rfl <;> omega
theorem small_iff (n : Sn) : Pt.times 8 (Pt.times n.val pbase) = Pt.none ↔ n.val = 0 := by
  constructor
  · intro h
    rw [← Pt.times_mul] at h
    exact eight_dvd (dvd_LL h) n.isLt
  · intro h
    rw [h, Pt.times_zero, Pt.times_none]
theorem small_dec (a : Nat) : decide ((toS a + toS 0).val = 0) = decide (Pt.times 8 (Pt.times (toS a).val pbase) = Pt.none) := by
  have e : toS a + toS 0 = toS a := by
    have : toS 0 = 0 := rfl
    rw [this]
    grind
  rw [e]
  exact decide_eq_decide.2 (small_iff _).symm
end Pnt
end Go.Proofs.YtlfkohanfeejfaaDoor
