/-
  The document's Compare.
-/
import Derived.Test.YtdihimepaihnpaaCmp
namespace Go.Proofs.Ytdihimepaihnpaa
open Go.RowKit

theorem key_cells2 (w : World) (a b : List UInt8) (k : Nat) (ha : k < a.length) (hb : k < b.length) (t : TypeId) :
    ((w.alloc (.cells (a.map bv).toArray t)).alloc (.cells (b.map bv).toArray t)).cell? ⟨w.heap.size, k, none⟩ = some (.int .u8 (a[k].toNat : Int)) ∧
    ((w.alloc (.cells (a.map bv).toArray t)).alloc (.cells (b.map bv).toArray t)).cell? ⟨w.heap.size + 1, k, none⟩ = some (.int .u8 (b[k].toNat : Int)) := by
  constructor
  · rw [cell_of_row _ _ k _ _ _ (heap_alloc2_old w _ _)]; simp [bv, ha]
  · rw [cell_of_row _ _ k _ _ _ (heap_alloc2_new w _ _)]; simp [bv, hb]

set_option maxHeartbeats 1000000 in
theorem RCompare_any (a b : List UInt8) (w : World) (ha : a.length = 32) (hb : b.length = 32) :
    Calls Try.prog 23 #[kv a, kv b] w (GaveInt w (kcmp a b)) := by
  unfold kv
  have HL := Lib.hid ha
  have HL2 := Lib.hid hb
  clear ha hb
  have hbl : Below w.heap.size w ((w.alloc (.cells (a.map bv).toArray 36)).alloc (.cells (b.map bv).toArray 36)) := ((Below.refl _ _).alloc (Nat.le_refl _) _).alloc (by simp) _
  go_enter Try.func23, Try.ntmps23
  go_wp2
  go_loopw [5] (fun i wr => ∃ (k q : Nat), k ≤ 32 ∧ i = .int .i64 k ∧ Hid (a.take k = b.take k) ∧ wr = ((w.alloc (.cells (a.map bv).toArray 36)).alloc (.cells (b.map bv).toArray 36)).drewN q)
    (fun i _ => 32 - (intOf i).toNat)
  case atStart => exact ⟨0, 0, by omega, rfl, Lib.hid (by simp : a.take 0 = b.take 0), by rfl⟩
  case round =>
    obtain ⟨k, q, hk, rfl, ht, rfl⟩ := hrel
    by_cases hlt : k < 32
    · obtain ⟨hc1, hc2⟩ := key_cells2 w a b k (by rw [HL.out]; exact hlt) (by rw [HL2.out]; exact hlt) 36
      have hx := (a[k]'(by rw [HL.out]; exact hlt)).toNat_lt
      have hy := (b[k]'(by rw [HL2.out]; exact hlt)).toNat_lt
      have hat := Lib.hid (compare_at a b k (by rw [HL.out]; exact hlt) (by rw [HL.out, HL2.out]) ht.out)
      have hnx : Hid (a[k]'(by rw [HL.out]; exact hlt) = b[k]'(by rw [HL2.out]; exact hlt) → a.take (k + 1) = b.take (k + 1)) := by
        have h1 : k < a.length := by rw [HL.out]; exact hlt
        have h2 : k < b.length := by rw [HL2.out]; exact hlt
        exact fun e => by rw [List.take_succ_eq_append_getElem h1, List.take_succ_eq_append_getElem h2, ht.out, e]
      generalize a[k]'(by rw [HL.out]; exact hlt) = x at *
      generalize b[k]'(by rw [HL2.out]; exact hlt) = y at *
      rcases Nat.lt_trichotomy x.toNat y.toNat with h | h | h
      · have hi : (x.toNat : Int) < y.toNat := by omega
        go_wp2
        go_quiet (fail)
        go_wp2
        go_ret
        exact ⟨ret_int (hat.out.1 h).symm, (below_drewN (below_drewN hbl _) _)⟩
      · have e := UInt8.toNat_inj.1 h
        subst e
        go_wp2
        go_quiet (fail)
        go_wp2
        go_quiet (fail)
        go_wp2
        go_roundw
        case rel => exact ⟨k + 1, _, by omega, by go_num, hnx.out trivial, rfl⟩
        case measure => simp [intOf]; omega
      · have hi : ¬ (x.toNat : Int) < y.toNat := by omega
        have hi2 : (y.toNat : Int) < x.toNat := by omega
        go_wp2
        go_quiet (fail)
        go_wp2
        go_quiet (fail)
        go_wp2
        go_ret
        exact ⟨ret_int (hat.out.2 h).symm, below_drewN (below_drewN (below_drewN hbl _) _) _⟩
    · obtain rfl : k = 32 := by omega
      have e : a = b := by
        have := ht.out
        rwa [List.take_of_length_le (by rw [HL.out]; exact Nat.le_refl _), List.take_of_length_le (by rw [HL2.out]; exact Nat.le_refl _)] at this
      have E := Lib.hid e
      clear e
      go_wp2
      go_ret
      exact ⟨ret_int (by rw [E.out]; exact (compare_self b).symm), below_drewN hbl _⟩
end Go.Proofs.Ytdihimepaihnpaa
