/-
  The small functions of SHA-512, the program's and the document's: turning, mixing.
-/
import Derived.Test.YtppaffamlfghjaaDoorWide
import Derived.BigQuiet
import Derived.Deep.QuietTactic
import Derived.Laws.BitsAllLaws
namespace Go.Proofs.YtppaffamlfghjaaDoor
open Go.RowKit

theorem u_lt (x : UInt64) : x.toNat < 18446744073709551616 := x.toNat_lt
theorem u_of (n : Nat) : ((UInt64.ofNat n).toNat : Int) = (n : Int) % 18446744073709551616 := by
  rw [UInt64.toNat_ofNat']
  exact Int.natCast_emod n 18446744073709551616
theorem u_add (x y : UInt64) : ((x.toNat : Int) + (y.toNat : Int)) % 18446744073709551616 = ((x + y).toNat : Int) := by
  rw [UInt64.toNat_add]; omega
theorem u_xor (x y : UInt64) : bits .xor .u64 (x.toNat : Int) (y.toNat : Int) = ((x ^^^ y).toNat : Int) := by
  rw [u64_xor_nat _ _ (u_lt x) (u_lt y), UInt64.toNat_xor]
theorem u_and (x y : UInt64) : bits .and .u64 (x.toNat : Int) (y.toNat : Int) = ((x &&& y).toNat : Int) := by
  rw [u64_and_nat _ _ (u_lt x) (u_lt y), UInt64.toNat_and]
theorem u_or (x y : UInt64) : bits .or .u64 (x.toNat : Int) (y.toNat : Int) = ((x ||| y).toNat : Int) := by
  rw [u64_or_nat _ _ (u_lt x) (u_lt y), UInt64.toNat_or]
theorem u_shr (x : UInt64) (k : Nat) : (x.toNat : Int) / 2 ^ k = ((shr x k).toNat : Int) := by
  unfold shr
  have h : x.toNat / 2 ^ k < 18446744073709551616 := Nat.lt_of_le_of_lt (Nat.div_le_self _ _) (u_lt x)
  rw [UInt64.toNat_ofNat', Nat.mod_eq_of_lt h, Int.natCast_ediv]
  congr 1
theorem u_inj {x y : UInt64} (h : x = y) : ((x.toNat : Nat) : Int) = (y.toNat : Int) := by rw [h]

theorem two_pow_cast (k : Nat) : (2 : Int) ^ k = ((2 ^ k : Nat) : Int) := (Int.natCast_pow 2 k).symm

/-- The document's way to turn. -/
theorem turn_ref (x : UInt64) (k : Nat) : ((x.toNat : Int) / 2 ^ k + (x.toNat : Int) * 2 ^ (64 - k) % 18446744073709551616) % 18446744073709551616 = ((rotr x k).toNat : Int) := by
  unfold rotr
  rw [u_of, two_pow_cast, two_pow_cast, Int.natCast_add, Int.natCast_mul, Int.natCast_ediv]
  omega

/-- The program's way to turn. -/
theorem turn_prog (x : UInt64) (k : Nat) (h1 : 1 ≤ k) (h2 : k < 64) : bits .or .u64 ((x.toNat : Int) * 2 ^ (64 - k) % 18446744073709551616) ((x.toNat : Int) / 2 ^ k) = ((rotr x k).toNat : Int) := by
  rw [← turn_ref]
  have hx := u_lt x
  have hp : 2 ^ (64 - k) * 2 ^ k = 18446744073709551616 := by rw [← Nat.pow_add, Nat.sub_add_cancel (by omega)]
  have hq : x.toNat / 2 ^ k < 2 ^ (64 - k) := by
    rw [Nat.div_lt_iff_lt_mul (Nat.two_pow_pos k), hp]; exact hx
  have hq2 : x.toNat / 2 ^ k < 18446744073709551616 := Nat.lt_of_le_of_lt (Nat.div_le_self _ _) hx
  have hm : x.toNat * 2 ^ (64 - k) % 18446744073709551616 = (x.toNat % 2 ^ k) * 2 ^ (64 - k) := by
    rw [← hp, Nat.mul_comm (2 ^ (64 - k)) (2 ^ k), Nat.mul_mod_mul_right]
  have hlt : (x.toNat % 2 ^ k) * 2 ^ (64 - k) < 18446744073709551616 := by rw [← hm]; exact Nat.mod_lt _ (by omega)
  have e1 : ((x.toNat : Int) * 2 ^ (64 - k) % 18446744073709551616) = (((x.toNat % 2 ^ k) * 2 ^ (64 - k) : Nat) : Int) := by
    rw [← hm, two_pow_cast, ← Int.natCast_mul]; exact (Int.natCast_emod _ 18446744073709551616).symm
  have e2 : (x.toNat : Int) / 2 ^ k = ((x.toNat / 2 ^ k : Nat) : Int) := by rw [two_pow_cast, ← Int.natCast_ediv]
  rw [e1, e2, u64_or_nat _ _ hlt hq2]
  have h := Nat.shiftLeft_add_eq_or_of_lt hq (x.toNat % 2 ^ k)
  rw [Nat.shiftLeft_eq] at h
  rw [← h]
  have : (x.toNat % 2 ^ k) * 2 ^ (64 - k) + x.toNat / 2 ^ k < 18446744073709551616 := by
    have h3 : x.toNat % 2 ^ k + 1 ≤ 2 ^ k := Nat.mod_lt _ (Nat.two_pow_pos k)
    have h4 := Nat.mul_le_mul_right (2 ^ (64 - k)) h3
    rw [Nat.add_mul, Nat.mul_comm (2 ^ k), hp] at h4
    omega
  omega

theorem neg_count (k : Nat) (h1 : 1 ≤ k) (h2 : k < 64) : bits .and .u64 (IntKind.u64.wrap (-(k : Int))) 63 = 64 - k := by
  have h : ∀ k : Fin 64, 1 ≤ k.val → bits .and .u64 (IntKind.u64.wrap (-(k.val : Int))) 63 = 64 - k.val := by decide +kernel
  exact h ⟨k, h2⟩ h1

theorem ret_int {k : IntKind} {a b : Int} (h : a = b) : Ending.returned (.int k a) = .returned (.int k b) := by rw [h]
def GaveU (w : World) (x : UInt64) (e : Ending) (w' : World) : Prop := e = .returned (.int .u64 (x.toNat : Int)) ∧ w = w'
/-- The number is given, and worlds differ in their tape alone. -/
def GaveQ (w : World) (x : UInt64) (e : Ending) (w' : World) : Prop := e = .returned (.int .u64 (x.toNat : Int)) ∧ ∃ n, w' = w.drewN n

set_option maxRecDepth 100000 in
theorem turned_any (x : UInt64) (k : Nat) (w : World) (h1 : 1 ≤ k) (h2 : k < 64) :
    Calls Tryd.prog 57 #[.int .u64 (x.toNat : Int), .int .u64 (k : Int)] w (GaveU w (rotr x k)) := by
  have h32 : (0 : Int) ≤ 64 - k := by omega
  go_enter Tryd.func57, Tryd.ntmps57
  go_wp2
  go_ret
  exact ⟨ret_int (turn_ref x k), rfl⟩

set_option maxRecDepth 100000 in
theorem Rot_any (x : UInt64) (k : Nat) (w : World) (h1 : 1 ≤ k) (h2 : k < 64) :
    Calls Tryd.prog 69 #[.int .u64 (x.toNat : Int), .int .i64 (-(k : Int))] w (GaveU w (rotr x k)) := by
  have hc := neg_count k h1 h2
  have h32 : (0 : Int) ≤ 64 - k := by omega
  have h33 : (64 : Int) - (64 - k) = k := by omega
  go_enter Tryd.func69, Tryd.ntmps69
  go_wp2
  go_ret
  exact ⟨ret_int (turn_prog x k h1 h2), rfl⟩

theorem Rot_q (x : UInt64) (k n : Nat) (w : World) (h1 : 1 ≤ k) (h2 : k < 64) :
    Calls Tryd.prog 69 #[.int .u64 (x.toNat : Int), .int .i64 (-(k : Int))] (w.drewN n) fun e w' => e = .returned (.int .u64 ((rotr x k).toNat : Int)) ∧ w' = w.drewN n :=
  (Rot_any x k _ h1 h2).mono fun _ _ ⟨h, h'⟩ => ⟨h, h'.symm⟩

set_option maxRecDepth 100000 in
theorem turnedMix_any (x : UInt64) (i j k : Nat) (w : World) (hi : 1 ≤ i) (hi2 : i < 64) (hj : 1 ≤ j) (hj2 : j < 64) (hk : 1 ≤ k) (hk2 : k < 64) :
    Calls Tryd.prog 65 #[.int .u64 (x.toNat : Int), .int .i64 (i : Int), .int .i64 (j : Int), .int .i64 (k : Int)] w (GaveU w (tmix x i j k)) := by
  go_enter Tryd.func65, Tryd.ntmps65
  go_wp2_with (go_at_call 69; (first | with_reducible refine (Rot_any x i _ hi hi2).mono ?_ | with_reducible refine (Rot_any x j _ hj hj2).mono ?_ | with_reducible refine (Rot_any x k _ hk hk2).mono ?_); rintro e w' ⟨rfl, rfl⟩)
  go_ret
  exact ⟨ret_int (by simp only [u_xor]; rfl), rfl⟩

set_option maxRecDepth 100000 in
theorem shiftedMix_any (x : UInt64) (i j k : Nat) (w : World) (hi : 1 ≤ i) (hi2 : i < 64) (hj : 1 ≤ j) (hj2 : j < 64) (hk : 1 ≤ k) (hk2 : k < 64) :
    Calls Tryd.prog 68 #[.int .u64 (x.toNat : Int), .int .i64 (i : Int), .int .i64 (j : Int), .int .i64 (k : Int)] w (GaveQ w (smix x i j k)) := by
  go_enter Tryd.func68, Tryd.ntmps68
  go_wp2
  go_quiet ((go_at_call 69; (first | (with_reducible refine Calls.quiet_of_same (Rot_q x i _ _ hi hi2)) | (with_reducible refine Calls.quiet_of_same (Rot_q x j _ _ hj hj2)))))
  go_wp2
  go_ret
  exact ⟨ret_int (by simp only [u_xor, u_shr]; rfl), _, rfl⟩

end Go.Proofs.YtppaffamlfghjaaDoor
