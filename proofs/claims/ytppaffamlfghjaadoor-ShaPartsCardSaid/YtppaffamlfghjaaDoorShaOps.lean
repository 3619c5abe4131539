/-
  The small functions of SHA-256, the program's and the document's: turning, mixing, a number of four bytes.
-/
import Derived.Test.YtppaffamlfghjaaDoorSha
import Derived.BigQuiet
import Derived.Deep.QuietTactic
import Derived.Laws.BitsAllLaws
namespace Go.Proofs.YtppaffamlfghjaaDoor
open Go.RowKit

theorem u_lt (x : UInt32) : x.toNat < 4294967296 := x.toNat_lt
theorem u_of (n : Nat) : ((UInt32.ofNat n).toNat : Int) = (n : Int) % 4294967296 := by
  rw [UInt32.toNat_ofNat']
  exact Int.natCast_emod n 4294967296
theorem u_add (x y : UInt32) : ((x.toNat : Int) + (y.toNat : Int)) % 4294967296 = ((x + y).toNat : Int) := by
  rw [UInt32.toNat_add]; omega
theorem u_xor (x y : UInt32) : bits .xor .u32 (x.toNat : Int) (y.toNat : Int) = ((x ^^^ y).toNat : Int) := by
  rw [u32_xor_nat _ _ (u_lt x) (u_lt y), UInt32.toNat_xor]
theorem u_and (x y : UInt32) : bits .and .u32 (x.toNat : Int) (y.toNat : Int) = ((x &&& y).toNat : Int) := by
  rw [u32_and_nat _ _ (u_lt x) (u_lt y), UInt32.toNat_and]
theorem u_or (x y : UInt32) : bits .or .u32 (x.toNat : Int) (y.toNat : Int) = ((x ||| y).toNat : Int) := by
  rw [u32_or_nat _ _ (u_lt x) (u_lt y), UInt32.toNat_or]
theorem u_shr (x : UInt32) (k : Nat) : (x.toNat : Int) / 2 ^ k = ((shr x k).toNat : Int) := by
  unfold shr
  have h : x.toNat / 2 ^ k < 4294967296 := Nat.lt_of_le_of_lt (Nat.div_le_self _ _) (u_lt x)
  rw [UInt32.toNat_ofNat', Nat.mod_eq_of_lt h, Int.natCast_ediv]
  congr 1
theorem u_inj {x y : UInt32} (h : x = y) : ((x.toNat : Nat) : Int) = (y.toNat : Int) := by rw [h]

theorem two_pow_cast (k : Nat) : (2 : Int) ^ k = ((2 ^ k : Nat) : Int) := (Int.natCast_pow 2 k).symm

/-- The document's way to turn. -/
theorem turn_ref (x : UInt32) (k : Nat) : ((x.toNat : Int) / 2 ^ k + (x.toNat : Int) * 2 ^ (32 - k) % 4294967296) % 4294967296 = ((rotr x k).toNat : Int) := by
  unfold rotr
  rw [u_of, two_pow_cast, two_pow_cast, Int.natCast_add, Int.natCast_mul, Int.natCast_ediv]
  omega

/-- The program's way to turn. -/
theorem turn_prog (x : UInt32) (k : Nat) (h1 : 1 ≤ k) (h2 : k < 32) : bits .or .u32 ((x.toNat : Int) * 2 ^ (32 - k) % 4294967296) ((x.toNat : Int) / 2 ^ k) = ((rotr x k).toNat : Int) := by
  rw [← turn_ref]
  have hx := u_lt x
  have hp : 2 ^ (32 - k) * 2 ^ k = 4294967296 := by rw [← Nat.pow_add, Nat.sub_add_cancel (by omega)]
  have hq : x.toNat / 2 ^ k < 2 ^ (32 - k) := by
    rw [Nat.div_lt_iff_lt_mul (Nat.two_pow_pos k), hp]; exact hx
  have hq2 : x.toNat / 2 ^ k < 4294967296 := Nat.lt_of_le_of_lt (Nat.div_le_self _ _) hx
  have hm : x.toNat * 2 ^ (32 - k) % 4294967296 = (x.toNat % 2 ^ k) * 2 ^ (32 - k) := by
    rw [← hp, Nat.mul_comm (2 ^ (32 - k)) (2 ^ k), Nat.mul_mod_mul_right]
  have hlt : (x.toNat % 2 ^ k) * 2 ^ (32 - k) < 4294967296 := by rw [← hm]; exact Nat.mod_lt _ (by omega)
  have e1 : ((x.toNat : Int) * 2 ^ (32 - k) % 4294967296) = (((x.toNat % 2 ^ k) * 2 ^ (32 - k) : Nat) : Int) := by
    rw [← hm, two_pow_cast, ← Int.natCast_mul]; exact (Int.natCast_emod _ 4294967296).symm
  have e2 : (x.toNat : Int) / 2 ^ k = ((x.toNat / 2 ^ k : Nat) : Int) := by rw [two_pow_cast, ← Int.natCast_ediv]
  rw [e1, e2, u32_or_nat _ _ hlt hq2]
  have h := Nat.shiftLeft_add_eq_or_of_lt hq (x.toNat % 2 ^ k)
  rw [Nat.shiftLeft_eq] at h
  rw [← h]
  have : (x.toNat % 2 ^ k) * 2 ^ (32 - k) + x.toNat / 2 ^ k < 4294967296 := by
    have h3 : x.toNat % 2 ^ k + 1 ≤ 2 ^ k := Nat.mod_lt _ (Nat.two_pow_pos k)
    have h4 := Nat.mul_le_mul_right (2 ^ (32 - k)) h3
    rw [Nat.add_mul, Nat.mul_comm (2 ^ k), hp] at h4
    omega
  omega

theorem neg_count (k : Nat) (h1 : 1 ≤ k) (h2 : k < 32) : bits .and .u64 (IntKind.u64.wrap (-(k : Int))) 31 = 32 - k := by
  have h : ∀ k : Fin 32, 1 ≤ k.val → bits .and .u64 (IntKind.u64.wrap (-(k.val : Int))) 31 = 32 - k.val := by decide +kernel
  exact h ⟨k, h2⟩ h1

theorem ret_int {k : IntKind} {a b : Int} (h : a = b) : Ending.returned (.int k a) = .returned (.int k b) := by rw [h]
def GaveU (w : World) (x : UInt32) (e : Ending) (w' : World) : Prop := e = .returned (.int .u32 (x.toNat : Int)) ∧ w = w'
/-- The number is given, and worlds differ in their tape alone. -/
def GaveQ (w : World) (x : UInt32) (e : Ending) (w' : World) : Prop := e = .returned (.int .u32 (x.toNat : Int)) ∧ ∃ n, w' = w.drewN n

set_option maxRecDepth 100000 in
theorem turned_any (x : UInt32) (k : Nat) (w : World) (h1 : 1 ≤ k) (h2 : k < 32) :
    Calls Tryd.prog 49 #[.int .u32 (x.toNat : Int), .int .u64 (k : Int)] w (GaveU w (rotr x k)) := by
  have h32 : (0 : Int) ≤ 32 - k := by omega
  go_enter Tryd.func49, Tryd.ntmps49
  go_wp2
  go_ret
  exact ⟨ret_int (turn_ref x k), rfl⟩

set_option maxRecDepth 100000 in
theorem Rot_any (x : UInt32) (k : Nat) (w : World) (h1 : 1 ≤ k) (h2 : k < 32) :
    Calls Tryd.prog 66 #[.int .u32 (x.toNat : Int), .int .i64 (-(k : Int))] w (GaveU w (rotr x k)) := by
  have hc := neg_count k h1 h2
  have h32 : (0 : Int) ≤ 32 - k := by omega
  have h33 : (32 : Int) - (32 - k) = k := by omega
  go_enter Tryd.func66, Tryd.ntmps66
  go_wp2
  go_ret
  exact ⟨ret_int (turn_prog x k h1 h2), rfl⟩

theorem Rot_q (x : UInt32) (k n : Nat) (w : World) (h1 : 1 ≤ k) (h2 : k < 32) :
    Calls Tryd.prog 66 #[.int .u32 (x.toNat : Int), .int .i64 (-(k : Int))] (w.drewN n) fun e w' => e = .returned (.int .u32 ((rotr x k).toNat : Int)) ∧ w' = w.drewN n :=
  (Rot_any x k _ h1 h2).mono fun _ _ ⟨h, h'⟩ => ⟨h, h'.symm⟩

set_option maxRecDepth 100000 in
theorem turnedMix_any (x : UInt32) (i j k : Nat) (w : World) (hi : 1 ≤ i) (hi2 : i < 32) (hj : 1 ≤ j) (hj2 : j < 32) (hk : 1 ≤ k) (hk2 : k < 32) :
    Calls Tryd.prog 62 #[.int .u32 (x.toNat : Int), .int .i64 (i : Int), .int .i64 (j : Int), .int .i64 (k : Int)] w (GaveU w (tmix x i j k)) := by
  go_enter Tryd.func62, Tryd.ntmps62
  go_wp2_with (go_at_call 66; (first | with_reducible refine (Rot_any x i _ hi hi2).mono ?_ | with_reducible refine (Rot_any x j _ hj hj2).mono ?_ | with_reducible refine (Rot_any x k _ hk hk2).mono ?_); rintro e w' ⟨rfl, rfl⟩)
  go_ret
  exact ⟨ret_int (by simp only [u_xor]; rfl), rfl⟩

set_option maxRecDepth 100000 in
theorem shiftedMix_any (x : UInt32) (i j k : Nat) (w : World) (hi : 1 ≤ i) (hi2 : i < 32) (hj : 1 ≤ j) (hj2 : j < 32) (hk : 1 ≤ k) (hk2 : k < 32) :
    Calls Tryd.prog 61 #[.int .u32 (x.toNat : Int), .int .i64 (i : Int), .int .i64 (j : Int), .int .i64 (k : Int)] w (GaveQ w (smix x i j k)) := by
  go_enter Tryd.func61, Tryd.ntmps61
  go_wp2
  go_quiet ((go_at_call 66; (first | (with_reducible refine Calls.quiet_of_same (Rot_q x i _ _ hi hi2)) | (with_reducible refine Calls.quiet_of_same (Rot_q x j _ _ hj hj2)))))
  go_wp2
  go_ret
  exact ⟨ret_int (by simp only [u_xor, u_shr]; rfl), _, rfl⟩

theorem or_low (A B j : Nat) (hB : B < 2 ^ j) (h : A * 2 ^ j + B < 4294967296) : bits .or .u32 ((A * 2 ^ j : Nat) : Int) ((B : Nat) : Int) = ((A * 2 ^ j + B : Nat) : Int) := by
  rw [u32_or_nat _ _ (by omega) (by omega)]
  have h1 := Nat.shiftLeft_add_eq_or_of_lt hB A
  rw [Nat.shiftLeft_eq] at h1
  rw [h1]

theorem or_bytes (x0 x1 x2 x3 : UInt8) :
    bits .or .u32 (bits .or .u32 (bits .or .u32 ((x0.toNat : Int) % 4294967296 * 16777216 % 4294967296) ((x1.toNat : Int) % 4294967296 * 65536 % 4294967296)) ((x2.toNat : Int) % 4294967296 * 256 % 4294967296)) ((x3.toNat : Int) % 4294967296) = ((UInt32.ofNat (beNum [x0, x1, x2, x3])).toNat : Int) := by
  have h0 := x0.toNat_lt
  have h1 := x1.toNat_lt
  have h2 := x2.toNat_lt
  have h3 := x3.toNat_lt
  have e : beNum [x0, x1, x2, x3] = ((x0.toNat * 256 + x1.toNat) * 256 + x2.toNat) * 256 + x3.toNat := by simp [beNum]
  rw [u_of, e]
  generalize x0.toNat = a at *
  generalize x1.toNat = b at *
  generalize x2.toNat = c at *
  generalize x3.toNat = d at *
  have e0 : ((a : Int) % 4294967296 * 16777216 % 4294967296) = ((a * 2 ^ 24 : Nat) : Int) := by omega
  have e1 : ((b : Int) % 4294967296 * 65536 % 4294967296) = ((b * 65536 : Nat) : Int) := by omega
  have e2 : ((c : Int) % 4294967296 * 256 % 4294967296) = ((c * 256 : Nat) : Int) := by omega
  have e3 : ((d : Int) % 4294967296) = ((d : Nat) : Int) := by omega
  rw [e0, e1, e2, e3, or_low a (b * 65536) 24 (by omega) (by omega), show a * 2 ^ 24 + b * 65536 = (a * 256 + b) * 2 ^ 16 by omega,
    or_low (a * 256 + b) (c * 256) 16 (by omega) (by omega), show (a * 256 + b) * 2 ^ 16 + c * 256 = ((a * 256 + b) * 256 + c) * 2 ^ 8 by omega,
    or_low _ d 8 (by omega) (by omega)]
  omega

/-- Four bytes that a slice begins with. -/
theorem sees_four {w : World} {B n c : Nat} {A : Option Addr} {l : List UInt8} (h : Sees w B A n c (l.map bv)) (hn : 4 ≤ n) :
    ∃ b o x0 x1 x2 x3, A = some ⟨b, o, none⟩ ∧ l.take 4 = [x0, x1, x2, x3] ∧ w.cell? ⟨b, o, none⟩ = some (.int .u8 (x0.toNat : Int)) ∧ w.cell? ⟨b, o + 1, none⟩ = some (.int .u8 (x1.toNat : Int)) ∧
      w.cell? ⟨b, o + 2, none⟩ = some (.int .u8 (x2.toNat : Int)) ∧ w.cell? ⟨b, o + 3, none⟩ = some (.int .u8 (x3.toNat : Int)) := by
  have hl := h.len
  rw [List.length_map] at hl
  obtain ⟨b, o, rfl, _, hc⟩ := h.at_ (by omega)
  have hg : ∀ j, (hj : j < n) → w.cell? ⟨b, o + j, none⟩ = some (.int .u8 ((l[j]).toNat : Int)) := fun j hj => hc j _ (by rw [List.getElem?_map, List.getElem?_eq_getElem (by omega)]; rfl)
  refine ⟨b, o, l[0], l[1], l[2], l[3], rfl, ?_, hg 0 (by omega), hg 1 (by omega), hg 2 (by omega), hg 3 (by omega)⟩
  match l, hl with
  | x0 :: x1 :: x2 :: x3 :: r, _ => rfl
  | [], hl => simp at hl; omega
  | [_], hl => simp at hl; omega
  | [_, _], hl => simp at hl; omega
  | [_, _, _], hl => simp at hl; omega

set_option maxRecDepth 100000 in
theorem number_any (A : Option Addr) (n c B : Nat) (l : List UInt8) (w : World) (h : Sees w B A n c (l.map bv)) (hn : 4 ≤ n) :
    Calls Tryd.prog 59 #[.slice A n c] w (GaveQ w (be32 l)) := by
  obtain ⟨b, o, x0, x1, x2, x3, rfl, hx, hc0, hc1, hc2, hc3⟩ := sees_four h hn
  have HX := Lib.hid hx
  have hn0 : (0 : Int) < n := by omega
  have hn1 : (1 : Int) < n := by omega
  have hn2 : (2 : Int) < n := by omega
  have hn3 : (3 : Int) < n := by omega
  clear hx
  go_enter Tryd.func59, Tryd.ntmps59
  go_wp2
  go_quiet (fail)
  go_wp2
  go_ret
  exact ⟨ret_int (by unfold be32; rw [HX.out]; exact or_bytes x0 x1 x2 x3), _, rfl⟩
end Go.Proofs.YtppaffamlfghjaaDoor
