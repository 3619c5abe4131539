/-
  Numbers modulo L, the order of the curve's great group. Pure.
-/
import Derived.Test.YthhcjknkmdaeeaaDoorNums
namespace Go.Proofs.YthhcjknkmdaeeaaDoor

/-- L. -/
def LL : Nat := 7237005577332262213973186563042994240857116359379907606001950938285454250989
instance : NeZero LL := ⟨by decide⟩
abbrev Sn := Fin LL

def toS (n : Nat) : Sn := ⟨n % LL, Nat.mod_lt _ (by decide)⟩
theorem toS_val (n : Nat) : (toS n).val = n % LL := rfl
theorem toS_of (a : Sn) : toS a.val = a := Fin.ext (Nat.mod_eq_of_lt a.isLt)
theorem toS_mod (n : Nat) : toS (n % LL) = toS n := Fin.ext (Nat.mod_mod _ _)
theorem toS_eq {m n : Nat} : toS m = toS n ↔ m % LL = n % LL := ⟨fun h => congrArg Fin.val h, fun h => Fin.ext h⟩
theorem toS_zero {n : Nat} : toS n = 0 ↔ LL ∣ n := ⟨fun h => Nat.dvd_of_mod_eq_zero (congrArg Fin.val h), fun h => Fin.ext (Nat.mod_eq_zero_of_dvd h)⟩
theorem Sn.val_add (a b : Sn) : (a + b).val = (a.val + b.val) % LL := Fin.val_add a b
theorem Sn.val_mul (a b : Sn) : (a * b).val = a.val * b.val % LL := Fin.val_mul a b
theorem Sn.val_neg (a : Sn) : (-a).val = (LL - a.val) % LL := rfl
theorem Sn.val_zero : (0 : Sn).val = 0 := rfl
theorem Sn.val_one : (1 : Sn).val = 1 := rfl
theorem toS_add (m n : Nat) : toS (m + n) = toS m + toS n := Fin.ext (by rw [Sn.val_add, toS_val, toS_val, toS_val, Nat.add_mod])
theorem toS_mul (m n : Nat) : toS (m * n) = toS m * toS n := Fin.ext (by rw [Sn.val_mul, toS_val, toS_val, toS_val, Nat.mul_mod])

theorem Sn.lt_big (a : Sn) : a.val < big := Nat.lt_trans a.isLt (by decide)
theorem Sn.omul (a : Sn) : 1 * a = a := by grind
end Go.Proofs.YthhcjknkmdaeeaaDoor
