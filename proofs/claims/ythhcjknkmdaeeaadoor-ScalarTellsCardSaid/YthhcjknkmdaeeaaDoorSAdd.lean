/-
  The program's numbers modulo L: sums.
-/
import Derived.Test.YthhcjknkmdaeeaaDoorSProd
namespace Go.Proofs.YthhcjknkmdaeeaaDoor
open Go.RowKit
namespace Sca

theorem Tryd.infoFive : (Tryd.prog.info? 39).map (·.size) = some 5 := by kernel_rfl
/-- The first k limbs of a sum, and what is carried. -/
def addT (m n k : Nat) : List Nat := mixL 4 (m + n) 0 k ++ [cy 1 m n 0 k]
theorem addT_length (m n k : Nat) : (addT m n k).length = 5 := by unfold addT; rw [List.length_append, mixL_length]; rfl
theorem addT_zero (m n : Nat) : addT m n 0 = [0, 0, 0, 0, 0] := by unfold addT; rw [cy_zero]; rfl
theorem addT_four (m n k : Nat) : (addT m n k).getD 4 0 = cy 1 m n 0 k := rfl
theorem addT_set {m n k : Nat} (hk : k < 4) : ((addT m n k).set k (limb (m + n) k)).set 4 (cy 1 m n 0 (k + 1)) = addT m n (k + 1) := by
  unfold addT
  rw [← mixL_set hk, List.set_append_left _ _ (by rw [mixL_length]; exact hk), List.set_append_right _ _ (by simp [mixL_length])]
  simp [mixL_length]
theorem addT_num {m n : Nat} (hm : m < big) (hn : n < big) : numL (addT m n 4) = m + n ∧ ∀ x ∈ addT m n 4, x < 18446744073709551616 := by
  have h := cy_whole (q := 1) (X := m) (Y := n) (c := 0) (k := 4) (by rw [big_pow]; exact hm) (by rw [big_pow]; exact hn)
  rw [big_pow, Nat.one_mul, Nat.add_zero] at h
  constructor
  · have hd : ∀ k, (m + n) / 18446744073709551616 ^ k = limb (m + n) k + 18446744073709551616 * ((m + n) / 18446744073709551616 ^ (k + 1)) := fun k => by
      rw [Nat.pow_succ, ← Nat.div_div_eq_div_mul]
      unfold limb
      exact (Nat.mod_add_div _ _).symm
    have e0 : m + n = (m + n) / 18446744073709551616 ^ 0 := by rw [Nat.pow_zero, Nat.div_one]
    have e : addT m n 4 = [limb (m + n) 0, limb (m + n) 1, limb (m + n) 2, limb (m + n) 3, cy 1 m n 0 4] := rfl
    rw [e, h, ← big_pow]
    conv => rhs; rw [e0, hd 0, hd 1, hd 2, hd 3]
    rfl
  · intro x hx
    have e : addT m n 4 = [limb (m + n) 0, limb (m + n) 1, limb (m + n) 2, limb (m + n) 3, cy 1 m n 0 4] := rfl
    rw [e] at hx
    simp only [List.mem_cons, List.not_mem_nil, or_false] at hx
    rcases hx with rfl | rfl | rfl | rfl | rfl
    · exact limb_lt _ _
    · exact limb_lt _ _
    · exact limb_lt _ _
    · exact limb_lt _ _
    · exact Nat.lt_of_le_of_lt (cy_bit (by omega) 4) (by decide)

theorem holds_drew {W : World} {ty g : Nat} {l : List Nat} (h : HoldsN W ty g l) : HoldsN W.drew ty g l := h
theorem tail_start (w : World) (ty : TypeId) (l : List Nat) (m n k : Nat) (c1 c2 c3 c4 : Array Value) (h1 : c1 = ((lims m).map nv).toArray) (h2 : c2 = ((lims n).map nv).toArray) (h3 : c3 = ((lims k).map nv).toArray) (h4 : c4 = (l.map nv).toArray) :
    HoldsN ((((w.alloc (.cells c1 24)).alloc (.cells c2 24)).alloc (.cells c3 24)).alloc (.cells c4 ty)) 24 w.heap.size (lims m) ∧
    HoldsN ((((w.alloc (.cells c1 24)).alloc (.cells c2 24)).alloc (.cells c3 24)).alloc (.cells c4 ty)) 24 (w.heap.size + 1) (lims n) ∧
    HoldsN ((((w.alloc (.cells c1 24)).alloc (.cells c2 24)).alloc (.cells c3 24)).alloc (.cells c4 ty)) 24 (w.heap.size + 1 + 1) (lims k) ∧
    HoldsN ((((w.alloc (.cells c1 24)).alloc (.cells c2 24)).alloc (.cells c3 24)).alloc (.cells c4 ty)) ty (w.heap.size + 1 + 1 + 1) l ∧
    Below w.heap.size w ((((w.alloc (.cells c1 24)).alloc (.cells c2 24)).alloc (.cells c3 24)).alloc (.cells c4 ty)) := by
  obtain ⟨a, a2, a3, b, e⟩ := sc_start3 w m n k c1 c2 c3 h1 h2 h3
  exact ⟨a.alloc _, a2.alloc _, a3.alloc _, holdsN_new _ _ _ _ _ e.symm h4, b.alloc (by omega) _⟩

set_option maxRecDepth 100000 in
set_option maxHeartbeats 2000000 in
theorem Add_any (m n : Nat) (w : World) (hm : m < big) (hn : n < big) (L0 : Laid w) :
    Calls Tryd.prog 8 #[fev m, fev n] w (GaveF w (toS m + toS n).val) := by
  obtain ⟨hA, hB, hC, hT, hb⟩ := tail_start w 39 (addT m n 0) m n 0 _ _ #[.int .u64 0, .int .u64 0, .int .u64 0, .int .u64 0] #[.int .u64 0, .int .u64 0, .int .u64 0, .int .u64 0, .int .u64 0] rfl rfl (by kernel_rfl) (by rw [addT_zero]; rfl)
  have hsz := L0.size
  have LS : Hid (∀ k, (limb m k + limb n k + cy 1 m n 0 k) % 18446744073709551616 = limb (m + n) k ∧ (limb m k + limb n k + cy 1 m n 0 k) / 18446744073709551616 = cy 1 m n 0 (k + 1)) := Lib.hid fun k => lin_add m n k
  have hbit : Hid (∀ k, cy 1 m n 0 k ≤ 1) := Lib.hid fun k => cy_bit (by omega) k
  have SET : Hid (∀ k, k < 4 → ((addT m n k).set k (limb (m + n) k)).set 4 (cy 1 m n 0 (k + 1)) = addT m n (k + 1)) := Lib.hid fun k hk => addT_set hk
  have LEN : Hid (∀ k, (addT m n k).length = 5) := Lib.hid fun k => addT_length m n k
  have FOUR : Hid (∀ k, (addT m n k).getD 4 0 = cy 1 m n 0 k) := Lib.hid fun k => addT_four m n k
  have BL : Hid (∀ W, HoldsN W 39 (w.heap.size + 1 + 1 + 1) (addT m n 4) → Below w.heap.size w W → Calls Tryd.prog 24 #[.slice (some ⟨w.heap.size + 1 + 1 + 1, 0, none⟩) 5 5] W fun e w' => e = .returned (.agg ((lims (toS m + toS n).val).map nv).toArray) ∧ Below W.heap.size W w') := Lib.hid fun W hW hbW => by
    have h := below_any (addT m n 4) 5 (w.heap.size + 1 + 1 + 1) 39 W (addT_length m n 4) (by omega) (addT_num hm hn).2 hW (L0.keep hbW hsz)
    rw [(addT_num hm hn).1] at h
    rw [← toS_add]
    exact h
  generalize (toS m + toS n).val = v at *
  generalize m + n = s at *
  generalize addT m n = T at *
  rw [fev_eq, fev_eq]
  clear hm hn
  go_enter Tryd.func8, Tryd.ntmps8
  go_wp2
  go_loopw [6, 7] (fun _ vi wr => ∃ k : Nat, k ≤ 4 ∧ vi = .int .i64 (k : Int) ∧ HoldsN wr 24 w.heap.size (lims m) ∧ HoldsN wr 24 (w.heap.size + 1) (lims n) ∧ HoldsN wr 24 (w.heap.size + 1 + 1) (lims 0) ∧ HoldsN wr 39 (w.heap.size + 1 + 1 + 1) (T k) ∧ Below w.heap.size w wr)
    (fun _ vi _ => 4 - (intOf vi).toNat)
  case atStart => exact ⟨0, Nat.zero_le _, rfl, hA, hB, hC, hT, hb⟩
  case round =>
    clear hA hB hC hT hb
    obtain ⟨k, hk, rfl, hA, hB, hC, hT, hb⟩ := hrel
    by_cases hlt : k < 4
    · have hj2 : (k : Int) < 4 := by omega
      have hj5 : (k : Int) < 5 := by omega
      have ca := hA.cell (j := k) (by rw [lims_length]; exact hlt)
      have cb := hB.cell (j := k) (by rw [lims_length]; exact hlt)
      have ct := hT.cell (j := 4) (by rw [LEN.out]; omega)
      have ck := hT.cell (j := k) (by rw [LEN.out]; omega)
      rw [lims_get _ hlt] at ca cb
      rw [FOUR.out] at ct
      have hf := hT.frozen k
      have hf4 := hT.frozen 4
      have hL := Lib.hid (SET.out k hlt)
      have AD : ∀ W, (callFunc 23 #[.int .u64 (limb m k : Int), .int .u64 (limb n k : Int), .int .u64 (cy 1 m n 0 k : Int)]).run Tryd.prog W = .ok (.value (.tuple #[.int .u64 (limb s k : Int), .int .u64 (cy 1 m n 0 (k + 1) : Int)])) W := fun W => by
        have := run_Add64 (limb m k) (limb n k) (cy 1 m n 0 k) (hbit.out k) W
        rw [(LS.out k).1, (LS.out k).2] at this
        exact this
      generalize limb s k = x at *
      generalize limb m k = y at *
      generalize limb n k = z at *
      generalize cy 1 m n 0 k = c at *
      generalize cy 1 m n 0 (k + 1) = c' at *
      go_wp2
      go_region
      all_goals
        go_wp2
        go_roundw
        case rel => exact ⟨k + 1, by omega, by go_num, holds_drew ((hA.setOther _ _ (by simp; omega)).setOther _ _ (by simp; omega)), holds_drew ((hB.setOther _ _ (by simp)).setOther _ _ (by simp)), holds_drew ((hC.setOther _ _ (by simp)).setOther _ _ (by simp)), by rw [← hL.out]; exact holds_drew ((hT.set k x).set 4 c'), ((hb.setCell (p := ⟨w.heap.size + 1 + 1 + 1, k, none⟩) (by simp; omega) _).setCell (p := ⟨w.heap.size + 1 + 1 + 1, 4, none⟩) (by simp; omega) _).drew⟩
        case measure => simp [intOf]; omega
    · rw [show (k : Int) = 4 by omega]
      obtain rfl : k = 4 := by omega
      clear hA hB
      generalize T 4 = t at *
      go_wp2_with (first
        | (go_at_call 24
           with_reducible refine (BL.out _ hT hb).mono ?_
           rintro e w3 ⟨rfl, hb3⟩
           have hC3 := hC.keep hb3 hC.lt
           have b3 := hb.trans (hb3.mono hb.size))
        | (with_reducible refine wpList_store_n rfl 24 (.tmp 4) (.tmp 27) rfl (w.heap.size + 1 + 1) (lims v) 4 rfl rfl rfl (lims 0) hC3 Tryd.infoSc rfl w.heap.size w b3 (by omega) ?_; intro w7 Hg _ _ hb7)
        | fail)
      exact bodyPost_ret (results_cell_row rfl _ _ _ _ _ _ _ rfl Hg Tryd.underlying24 rfl (by rw [Tryd.infoSc]; rfl)) rfl ⟨rfl, hb7⟩
end Sca
end Go.Proofs.YthhcjknkmdaeeaaDoor
