/-
  Eight times a number of 64 bits, whole: math/bits.Mul64 at 8.
-/
import Derived.Test.YtppaffamlfghjaaDoorProg
import Derived.WalkKit
import Derived.Lib.Hide
import Derived.Shelf.Bits.Mul64
namespace Go.Proofs.YtppaffamlfghjaaDoor
open Go.RowKit

theorem ret_two {a b c d : Int} (h1 : a = c) (h2 : b = d) : Ending.returned (.tuple #[.int .u64 a, .int .u64 b]) = .returned (.tuple #[.int .u64 c, .int .u64 d]) := by rw [h1, h2]

set_option maxRecDepth 100000 in
set_option maxHeartbeats 1000000 in
theorem Mul64_any (m : Nat) (hm : m < 18446744073709551616) (w : World) :
    Calls Tryd.prog 58 #[.int .u64 (m : Int), .int .u64 8] w fun e w' => e = .returned (.tuple #[.int .u64 ((m * 8 / 18446744073709551616 : Nat) : Int), .int .u64 ((m * 8 % 18446744073709551616 : Nat) : Int)]) ∧ w' = w := by
  obtain ⟨X, hX⟩ : ∃ X : Nat, X = m / 4294967296 * 8 + m % 4294967296 * 8 / 4294967296 := ⟨_, rfl⟩
  have hX2 : X < 34359738368 + 8 := by omega
  have hM := Mul64.maskN m hm
  have hMX : bits .and .u64 ((m : Int) / 4294967296 * 8 + (m : Int) % 4294967296 * 8 / 4294967296) 4294967295 = ((X % 4294967296 : Nat) : Int) := by
    rw [← Mul64.maskN X (by omega)]; congr 1; omega
  have h8 : bits .and .u64 8 4294967295 = 8 := by decide +kernel
  have e1 : IntKind.u64.wrap (((m : Int) / 4294967296 * 8 + (m : Int) % 4294967296 * 8 / 4294967296) / 4294967296 + IntKind.u64.wrap ((X % 4294967296 : Nat) : Int) / 4294967296) = ((m * 8 / 18446744073709551616 : Nat) : Int) := by
    rw [IntKind.wrap_u64, IntKind.wrap_u64]; omega
  have e2 : IntKind.u64.wrap ((m : Int) * 8) = ((m * 8 % 18446744073709551616 : Nat) : Int) := by rw [IntKind.wrap_u64]; omega
  have HX := Lib.hid hX
  clear hX
  go_enter Tryd.func58, Tryd.ntmps58
  go_wp2
  go_ret2
  exact ⟨ret_two (by omega) (by omega), rfl⟩
end Go.Proofs.YtppaffamlfghjaaDoor
