/-
  Bits: octet.Bit, and the document's.
-/
import Derived.Test.YtbkmbbhgpogeiaaSmall
import Derived.Test.YtbkmbbhgpogeiaaWords
import Derived.BigQuiet
import Derived.Deep.QuietTactic
namespace Go.Proofs.Ytbkmbbhgpogeiaa
open Go.RowKit

/-- Thirty-two bytes as a value. -/
def kv (l : List UInt8) : Value := .agg (l.map bv).toArray
/-- The bit of a key. -/
def kbit (l : List UInt8) (i : Nat) : Nat := (l.getD (i / 8) 0).toNat / 2 ^ (7 - i % 8) % 2

theorem key_cell (l : List UInt8) (w : World) (t : TypeId) (j : Nat) (hj : j < l.length) : (w.alloc (.cells (l.map bv).toArray t)).cell? ⟨w.heap.size, j, none⟩ = some (.int .u8 ((l.getD j 0).toNat : Int)) := by
  rw [cell_of_row _ _ j _ _ _ (heap_alloc_new w _)]
  simp [bv, hj]

theorem sh_nat (x : UInt8) (i : Int) (h0 : 0 ≤ i) : (x.toNat : Int) / 2 ^ (7 - i % 8).toNat = ((x.toNat / 2 ^ (7 - i.toNat % 8) : Nat) : Int) := by
  have e : (7 - i % 8).toNat = 7 - i.toNat % 8 := by omega
  rw [e, Int.natCast_ediv]
  congr 1

theorem bit_and (x : UInt8) (i : Int) (h0 : 0 ≤ i) : wrap64 (bits .and .u8 ((x.toNat : Int) / 2 ^ (7 - i % 8).toNat) 1) = ((x.toNat / 2 ^ (7 - i.toNat % 8) % 2 : Nat) : Int) := by
  have hx := x.toNat_lt
  have hd : x.toNat / 2 ^ (7 - i.toNat % 8) ≤ x.toNat := Nat.div_le_self _ _
  rw [sh_nat x i h0]
  have h := u8_and_nat (x.toNat / 2 ^ (7 - i.toNat % 8)) 1 (by omega) (by omega)
  have h1 : ((1 : Nat) : Int) = 1 := rfl
  rw [h1] at h
  rw [h, Nat.and_one_is_mod]
  generalize x.toNat / 2 ^ (7 - i.toNat % 8) = y at *
  exact IntWalk.wrap64_in _ (by omega)

theorem ret_int {k : IntKind} {a b : Int} (h : a = b) : Ending.returned (.int k a) = .returned (.int k b) := by rw [h]
def GaveInt (w : World) (n : Int) (e : Ending) (w' : World) : Prop := e = .returned (.int .i64 n) ∧ Below w.heap.size w w'

set_option maxHeartbeats 400000 in
theorem Bit_out (l : List UInt8) (i : Int) (w : World) (hi : i < 0 ∨ 256 ≤ i) :
    Calls Try.prog 18 #[kv l, .int .i64 i] w (GaveInt w 0) := by
  unfold kv
  go_enter Try.func18, Try.ntmps18
  go_wp2_with (go_at_call 29; refine (isBit_no _ _ hi).mono ?_; rintro e w' ⟨rfl, rfl⟩)
  go_ret
  exact ⟨rfl, (Below.refl _ _).alloc (Nat.le_refl _) _⟩

set_option maxHeartbeats 400000 in
theorem Bit_in (l : List UInt8) (i : Int) (w : World) (h0 : 0 ≤ i) (h1 : i < 256) (hl : l.length = 32) :
    Calls Try.prog 18 #[kv l, .int .i64 i] w (GaveInt w (kbit l i.toNat)) := by
  unfold kv
  have hc := key_cell l w 36 (i / 8).toNat (by omega)
  have hx := (l.getD (i / 8).toNat 0).toNat_lt
  have Hx : Hid (l.getD (i.toNat / 8) 0 = l.getD (i / 8).toNat 0) := by have : i.toNat / 8 = (i / 8).toNat := by omega
                                                                        rw [this]; exact rfl
  generalize l.getD (i / 8).toNat 0 = x at *
  have HL := Lib.hid hl
  clear hl
  go_enter Try.func18, Try.ntmps18
  go_wp2_with (go_at_call 29; refine (isBit_yes _ _ h0 h1).mono ?_; rintro e w' ⟨rfl, rfl⟩)
  go_ret
  refine ⟨ret_int ?_, (Below.refl _ _).alloc (Nat.le_refl _) _⟩
  rw [bit_and x i h0, kbit, Hx.out]

set_option maxHeartbeats 400000 in
theorem RBit_out (l : List UInt8) (i : Int) (w : World) (hi : i < 0 ∨ 256 ≤ i) :
    Calls Try.prog 19 #[kv l, .int .i64 i] w (GaveInt w 0) := by
  unfold kv
  rcases hi with hi | hi
  · go_enter Try.func19, Try.ntmps19
    go_wp2
    go_ret
    exact ⟨rfl, (Below.refl _ _).alloc (Nat.le_refl _) _⟩
  · have h2 : decide (i < 0) = false := by simp; omega
    go_enter Try.func19, Try.ntmps19
    go_wp2
    go_ret
    exact ⟨rfl, (Below.refl _ _).alloc (Nat.le_refl _) _⟩

set_option maxHeartbeats 400000 in
theorem RBit_in (l : List UInt8) (i : Int) (w : World) (h0 : 0 ≤ i) (h1 : i < 256) (hl : l.length = 32) :
    Calls Try.prog 19 #[kv l, .int .i64 i] w (GaveInt w (kbit l i.toNat)) := by
  unfold kv
  have hc := key_cell l w 36 (i / 8).toNat (by omega)
  have hx := (l.getD (i / 8).toNat 0).toNat_lt
  have Hx : Hid (l.getD (i.toNat / 8) 0 = l.getD (i / 8).toNat 0) := by have : i.toNat / 8 = (i / 8).toNat := by omega
                                                                        rw [this]; exact rfl
  generalize l.getD (i / 8).toNat 0 = x at *
  have HL := Lib.hid hl
  clear hl
  have h2 : decide (i < 0) = false := by simp; omega
  have h3 : decide (255 < i) = false := by simp; omega
  go_enter Try.func19, Try.ntmps19
  go_wp2
  go_ret
  refine ⟨ret_int ?_, (Below.refl _ _).alloc (Nat.le_refl _) _⟩
  rw [sh_nat x i h0, Int.tmod_eq_emod_of_nonneg (Int.natCast_nonneg _), kbit, Hx.out]
  rfl
end Go.Proofs.Ytbkmbbhgpogeiaa
