/-
  The document's numbers modulo P: P, which is less, differences, the least.
-/
import Derived.Test.YtcidbiceeinglaaDoorNums
import Derived.Test.YtcidbiceeinglaaDoorLimbs
namespace Go.Proofs.YtcidbiceeinglaaDoor
open Go.RowKit

theorem Tryd.infoFe : (Tryd.prog.info? 24).map (·.size) = some 4 := by kernel_rfl
theorem lims_get (n : Nat) {j : Nat} (h : j < 4) : (lims n).getD j 0 = limb n j := by
  match j, h with
  | 0, _ => rfl
  | 1, _ => rfl
  | 2, _ => rfl
  | 3, _ => rfl
theorem lims_zero : [0, 0, 0, 0] = lims 0 := by decide
theorem fe_start (w : World) (m : Nat) (c1 : Array Value) (h1 : c1 = ((lims m).map nv).toArray) : HoldsN (w.alloc (.cells c1 24)) 24 w.heap.size (lims m) ∧ Below w.heap.size w (w.alloc (.cells c1 24)) ∧ (w.alloc (.cells c1 24)).heap.size = w.heap.size + 1 :=
  ⟨holdsN_new _ _ _ _ _ rfl h1, (Below.refl _ w).alloc (Nat.le_refl _) _, World.size_alloc ..⟩
theorem fe_start2 (w : World) (m n : Nat) (c1 c2 : Array Value) (h1 : c1 = ((lims m).map nv).toArray) (h2 : c2 = ((lims n).map nv).toArray) :
    HoldsN ((w.alloc (.cells c1 24)).alloc (.cells c2 24)) 24 w.heap.size (lims m) ∧ HoldsN ((w.alloc (.cells c1 24)).alloc (.cells c2 24)) 24 (w.heap.size + 1) (lims n) ∧
    Below w.heap.size w ((w.alloc (.cells c1 24)).alloc (.cells c2 24)) ∧ ((w.alloc (.cells c1 24)).alloc (.cells c2 24)).heap.size = w.heap.size + 2 := by
  obtain ⟨a, b, e⟩ := fe_start w m c1 h1
  exact ⟨a.alloc _, holdsN_new _ _ _ _ _ e.symm h2, b.alloc (by omega) _, by rw [World.size_alloc, e]⟩
theorem fe_start3 (w : World) (m n k : Nat) (c1 c2 c3 : Array Value) (h1 : c1 = ((lims m).map nv).toArray) (h2 : c2 = ((lims n).map nv).toArray) (h3 : c3 = ((lims k).map nv).toArray) :
    HoldsN (((w.alloc (.cells c1 24)).alloc (.cells c2 24)).alloc (.cells c3 24)) 24 w.heap.size (lims m) ∧ HoldsN (((w.alloc (.cells c1 24)).alloc (.cells c2 24)).alloc (.cells c3 24)) 24 (w.heap.size + 1) (lims n) ∧
    HoldsN (((w.alloc (.cells c1 24)).alloc (.cells c2 24)).alloc (.cells c3 24)) 24 (w.heap.size + 2) (lims k) ∧ Below w.heap.size w (((w.alloc (.cells c1 24)).alloc (.cells c2 24)).alloc (.cells c3 24)) ∧
    (((w.alloc (.cells c1 24)).alloc (.cells c2 24)).alloc (.cells c3 24)).heap.size = w.heap.size + 3 := by
  obtain ⟨a, a2, b, e⟩ := fe_start2 w m n c1 c2 h1 h2
  exact ⟨a.alloc _, a2.alloc _, holdsN_new _ _ _ _ _ e.symm h3, b.alloc (by omega) _, by rw [World.size_alloc, e]⟩

/-- A call that gives a number. -/
def GaveF (w : World) (n : Nat) (e : Ending) (w' : World) : Prop := e = .returned (fev n) ∧ Below w.heap.size w w'

set_option maxRecDepth 100000 in
theorem rprime_any (w : World) : Calls Tryd.prog 40 #[] w (GaveF w PP) := by
  obtain ⟨z0, b0, _⟩ := fe_start w 0 #[.int .u64 0, .int .u64 0, .int .u64 0, .int .u64 0] (by kernel_rfl)
  have hP : Hid (Value.agg #[.int .u64 18446744073709551597, .int .u64 18446744073709551615, .int .u64 18446744073709551615, .int .u64 9223372036854775807] = .agg ((lims PP).map nv).toArray) := Lib.hid (by kernel_rfl)
  go_enter Tryd.func40, Tryd.ntmps40
  go_wp2_with (with_reducible refine wpList_store_n rfl 24 (.tmp 0) (.tmp 1) rfl w.heap.size (lims PP) 4 rfl (by with_unfolding_all exact hP.out) rfl (lims 0) (by with_unfolding_all exact z0) Tryd.infoFe rfl w.heap.size w (by with_unfolding_all exact b0) (Nat.le_refl _) ?_; intro w2 Hg _ _ hb2)
  exact bodyPost_ret (results_cell_row rfl _ _ w.heap.size _ _ _ _ rfl Hg Tryd.underlying24 rfl (by rw [Tryd.infoFe]; rfl)) rfl ⟨rfl, hb2⟩

set_option maxRecDepth 100000 in
set_option maxHeartbeats 1000000 in
theorem rLess_any (m n : Nat) (w : World) (hm : m < big) (hn : n < big) :
    Calls Tryd.prog 46 #[fev m, fev n] w fun e w' => e = .returned (.bool (decide (m < n))) ∧ Below w.heap.size w w' := by
  obtain ⟨hA, hB, hb, _⟩ := fe_start2 w m n _ _ rfl rfl
  rw [fev_eq, fev_eq]
  go_enter Tryd.func46, Tryd.ntmps46
  go_wp2
  go_loopw [5] (fun v wr => ∃ k : Nat, k ≤ 4 ∧ v = .int .i64 ((k : Int) - 1) ∧ m / 18446744073709551616 ^ k = n / 18446744073709551616 ^ k ∧ HoldsN wr 24 w.heap.size (lims m) ∧ HoldsN wr 24 (w.heap.size + 1) (lims n) ∧ Below w.heap.size w wr)
    (fun v _ => (intOf v + 1).toNat)
  case atStart => exact ⟨4, Nat.le_refl _, rfl, by rw [hi_top hm, hi_top hn], hA, hB, hb⟩
  case round =>
    clear hA hB hb
    obtain ⟨k, hk, rfl, hhi, hA, hB, hb⟩ := hrel
    rcases k with _ | j
    · rw [Nat.pow_zero, Nat.div_one, Nat.div_one] at hhi
      rw [show ((0 : Nat) : Int) - 1 = -1 from rfl]
      go_wp2
      go_ret
      exact ⟨by rw [decide_eq_false (by omega)]; rfl, hb⟩
    · rw [show ((j + 1 : Nat) : Int) - 1 = (j : Int) by omega]
      have hj : j < 4 := by omega
      have hj2 : (j : Int) < 4 := by omega
      have ca := hA.cell (j := j) (by rw [lims_length]; exact hj)
      have cb := hB.cell (j := j) (by rw [lims_length]; exact hj)
      rw [lims_get _ hj] at ca cb
      have hs := @same_at m n j hhi
      have hl := @less_at m n j hhi
      have hl' := @less_at n m j hhi.symm
      generalize limb m j = x at *
      generalize limb n j = y at *
      by_cases e : x = y
      · subst e
        go_wp2
        go_region
        go_wp2
        go_roundw
        case rel => exact ⟨j, by omega, by go_num, hs (by simp), hA, hB, hb.drew⟩
        case measure => simp [intOf]
      · have e' : ¬ (x : Int) = y := by omega
        go_wp2
        go_region
        go_wp2
        go_region
        go_wp2
        go_ret
        exact ⟨by
          rcases Nat.lt_or_gt_of_ne e with h | h
          · rw [decide_eq_true (hl h), decide_eq_true (by omega)]; rfl
          · rw [decide_eq_false (Nat.lt_asymm (hl' h)), decide_eq_false (by omega)]; rfl, hb.drew.drew⟩

/-- The first k limbs of a difference, and the rest of what it is taken from. -/
def tookL (m n k : Nat) : List Nat := (subs ((lims m).take k) ((lims n).take k) 0).1 ++ (lims m).drop k
def tookB (m n k : Nat) : Nat := (subs ((lims m).take k) ((lims n).take k) 0).2
theorem lims_take_succ (n : Nat) {k : Nat} (h : k < 4) : (lims n).take (k + 1) = (lims n).take k ++ [limb n k] := by
  match k, h with
  | 0, _ => rfl
  | 1, _ => rfl
  | 2, _ => rfl
  | 3, _ => rfl
theorem lims_drop (n : Nat) {k : Nat} (h : k < 4) : (lims n).drop k = limb n k :: (lims n).drop (k + 1) := by
  match k, h with
  | 0, _ => rfl
  | 1, _ => rfl
  | 2, _ => rfl
  | 3, _ => rfl
theorem took_len (m n : Nat) {k : Nat} (h : k ≤ 4) : (subs ((lims m).take k) ((lims n).take k) 0).1.length = k := by
  rw [subs_length _ _ _ (by simp [lims_length]), List.length_take, lims_length]; omega
theorem tookL_length (m n : Nat) {k : Nat} (h : k ≤ 4) : (tookL m n k).length = 4 := by
  unfold tookL; rw [List.length_append, took_len m n h, List.length_drop, lims_length]; omega
theorem tookL_get (m n : Nat) {k : Nat} (h : k < 4) : (tookL m n k).getD k 0 = limb m k := by
  have hl := took_len m n (Nat.le_of_lt h)
  unfold tookL
  rw [lims_drop m h, List.getD_eq_getElem?_getD, List.getElem?_append_right (by omega), hl, Nat.sub_self]
  rfl
theorem tookB_bit (m n k : Nat) : tookB m n k ≤ 1 := subs_bit _ _ _ (by omega)
theorem tookL_succ (m n : Nat) {k : Nat} (h : k < 4) : (tookL m n k).set k ((limb m k + 18446744073709551616 - (limb n k + tookB m n k)) % 18446744073709551616) = tookL m n (k + 1) := by
  have hl := took_len m n (Nat.le_of_lt h)
  have e : (lims m).take k = (lims m).take k := rfl
  unfold tookL tookB
  rw [lims_take_succ m h, lims_take_succ n h, subs_snoc _ _ _ _ _ (by simp [lims_length]), lims_drop m h, List.set_append_right _ _ (by omega), hl, Nat.sub_self, List.set_cons_zero]
  simp
theorem tookB_succ (m n : Nat) {k : Nat} (h : k < 4) : tookB m n (k + 1) = if limb m k < limb n k ∨ (limb m k = limb n k ∧ tookB m n k = 1) then 1 else 0 := by
  have hb := tookB_bit m n k
  unfold tookB at *
  rw [lims_take_succ m h, lims_take_succ n h, subs_snoc _ _ _ _ _ (by simp [lims_length]), borrow_told hb]
theorem tookL_whole {m n : Nat} (hm : m < big) (h : n ≤ m) : tookL m n 4 = lims (m - n) := by
  have hw := subs_whole hm h
  have hs := subs_small [limb m 0, limb m 1, limb m 2, limb m 3] [limb n 0, limb n 1, limb n 2, limb n 3] 0
  have hl := took_len m n (Nat.le_refl 4)
  have e : tookL m n 4 = (subs [limb m 0, limb m 1, limb m 2, limb m 3] [limb n 0, limb n 1, limb n 2, limb n 3] 0).1 := by unfold tookL; exact List.append_nil _
  change (subs [limb m 0, limb m 1, limb m 2, limb m 3] [limb n 0, limb n 1, limb n 2, limb n 3] 0).1.length = 4 at hl
  rw [e]
  generalize (subs [limb m 0, limb m 1, limb m 2, limb m 3] [limb n 0, limb n 1, limb n 2, limb n 3] 0).1 = l at *
  match l, hl, hs with
  | [a, b, c, d], _, hs => rw [← hw, ← limbs_wv, lims_limbs (hs a (by simp)) (hs b (by simp)) (hs c (by simp)) (hs d (by simp))]
end Go.Proofs.YtcidbiceeinglaaDoor
