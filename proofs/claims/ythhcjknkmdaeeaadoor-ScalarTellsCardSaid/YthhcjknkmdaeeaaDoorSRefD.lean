/-
  The document's numbers modulo L: sums.
-/
import Derived.Test.YthhcjknkmdaeeaaDoorSRefC
namespace Go.Proofs.YthhcjknkmdaeeaaDoor
open Go.RowKit

theorem Sn.sum_lt (a b : Sn) : a.val + b.val < big := by
  have h1 := a.isLt
  have h2 := b.isLt
  have h3 : LL + LL < big := by decide
  omega
theorem Sn.of_sum (a b : Sn) : (toS (a.val + b.val)).val = (a + b).val := by rw [toS_add, toS_of, toS_of]

set_option maxRecDepth 100000 in
set_option maxHeartbeats 1000000 in
theorem sAdd_any (m n : Nat) (w : World) (hm : m < big) (hn : n < big) :
    Calls Tryd.prog 9 #[fev m, fev n] w (GaveF w (toS m + toS n).val) := by
  obtain ⟨hA, hB, hC, hb, hsz⟩ := sc_start3 w m n 0 _ _ #[.int .u64 0, .int .u64 0, .int .u64 0, .int .u64 0] rfl rfl (by kernel_rfl)
  obtain ⟨a, ha⟩ : ∃ a, a = toS m := ⟨_, rfl⟩
  obtain ⟨b, hbb⟩ : ∃ b, b = toS n := ⟨_, rfl⟩
  have LM : Hid (∀ W, Calls Tryd.prog 25 #[.agg ((lims m).map nv).toArray] W fun e w' => e = .returned (.agg ((lims a.val).map nv).toArray) ∧ Below W.heap.size W w') := Lib.hid fun W => by rw [ha]; exact sLeast_any m W hm
  have LN : Hid (∀ W, Calls Tryd.prog 25 #[.agg ((lims n).map nv).toArray] W fun e w' => e = .returned (.agg ((lims b.val).map nv).toArray) ∧ Below W.heap.size W w') := Lib.hid fun W => by rw [hbb]; exact sLeast_any n W hn
  have LS : Hid (∀ W, Calls Tryd.prog 25 #[.agg ((lims (a.val + b.val)).map nv).toArray] W fun e w' => e = .returned (.agg ((lims (a + b).val).map nv).toArray) ∧ Below W.heap.size W w') := Lib.hid fun W => by rw [← Sn.of_sum]; exact sLeast_any _ W (Sn.sum_lt a b)
  rw [fev_eq, fev_eq, ← ha, ← hbb]
  have hwh := Lib.hid (gotL_whole (Sn.sum_lt a b))
  clear ha hbb
  generalize hp : a.val = p at *
  generalize hq : b.val = q at *
  clear hp hq
  go_enter Tryd.func9, Tryd.ntmps9
  go_wp2_with (first
    | (with_reducible refine wpList_load_n rfl 24 (.tmp 2) rfl w.heap.size rfl (lims m) 4 (by with_unfolding_all exact hA) rfl Tryd.underlying24 Tryd.infoSc ?_)
    | (with_reducible refine wpList_load_n rfl 24 (.tmp 3) rfl (w.heap.size + 1) rfl (lims n) 4 hB4 rfl Tryd.underlying24 Tryd.infoSc ?_)
    | (go_at_call 25
       with_reducible refine (LM.out _).mono ?_
       rintro e w3 ⟨rfl, hb3⟩
       have hA3 := hA.keep hb3 hA.lt
       have hB3 := hB.keep hb3 hB.lt
       have hC3 := hC.keep hb3 hC.lt
       have b3 := hb.trans (hb3.mono hb.size))
    | (with_reducible refine wpList_store_n rfl 24 (.tmp 2) (.tmp 9) rfl w.heap.size (lims p) 4 rfl rfl rfl (lims m) hA3 Tryd.infoSc rfl w.heap.size w b3 (Nat.le_refl _) ?_
       intro w4 hA4 o4 s4 b4
       have hB4 := hB3.oth o4 (by omega)
       have hC4 := hC3.oth o4 (by omega)
       clear s4)
    | (go_at_call 25
       with_reducible refine (LN.out _).mono ?_
       rintro e w5 ⟨rfl, hb5⟩
       have hA5 := hA4.keep hb5 hA4.lt
       have hB5 := hB4.keep hb5 hB4.lt
       have hC5 := hC4.keep hb5 hC4.lt
       have b5 := b4.trans (hb5.mono b4.size))
    | (with_reducible refine wpList_store_n rfl 24 (.tmp 3) (.tmp 11) rfl (w.heap.size + 1) (lims q) 4 rfl rfl rfl (lims n) hB5 Tryd.infoSc rfl w.heap.size w b5 (Nat.le_succ _) ?_
       intro w6 hB6 o6 s6 b6
       have hA6 := hA5.oth o6 (by omega)
       have hC6 := hC5.oth o6 (by omega)
       clear s6))
  clear hA hB hC hb hA3 hB3 hC3 hb3 b3 hA4 hB4 hC4 o4 b4 hA5 hB5 hC5 hb5 b5 o6
  go_loopw [5, 6] (fun vb vi wr => ∃ k : Nat, k ≤ 4 ∧ vi = .int .i64 (k : Int) ∧ vb = .int .u64 (gotC p q k : Int) ∧ HoldsN wr 24 w.heap.size (gotL p q k) ∧ HoldsN wr 24 (w.heap.size + 1) (lims q) ∧ HoldsN wr 24 (w.heap.size + 2) (lims 0) ∧ Below w.heap.size w wr)
    (fun _ vi _ => 4 - (intOf vi).toNat)
  case atStart => exact ⟨0, Nat.zero_le _, rfl, rfl, hA6, hB6, hC6, b6⟩
  case round =>
    clear hA6 hB6 hC6 b6
    obtain ⟨k, hk, rfl, rfl, hA, hB, hC, hb⟩ := hrel
    by_cases hlt : k < 4
    · have hj2 : (k : Int) < 4 := by omega
      have ca := hA.cell (j := k) (by rw [gotL_length p q hk]; exact hlt)
      have cb := hB.cell (j := k) (by rw [lims_length]; exact hlt)
      rw [gotL_get p q hlt] at ca
      rw [lims_get _ hlt] at cb
      have hf := hA.frozen k
      have hL := Lib.hid (gotL_succ p q hlt)
      have hBs := Lib.hid (gotC_succ p q hlt)
      have hw := Lib.hid (@got_wrap (limb p k) (limb q k) (gotC p q k))
      generalize hx : limb p k = x at *
      generalize hy : limb q k = y at *
      generalize hc : gotC p q k = c at *
      generalize (x + y + c) % 18446744073709551616 = d at *
      go_wp2
      go_region
      rw [hw.out]
      have told : ∀ b : Nat, b = (if d < x ∨ (d = x ∧ c = 1) then 1 else 0) → gotC p q (k + 1) = b := fun b h => by rw [hBs.out, h]
      have Told := Lib.hid told
      clear told
      by_cases h1 : d < x
      · have d1 : decide ((d : Int) < x) = true := decide_eq_true (by omega)
        go_wp2
        go_roundw
        case rel => exact ⟨k + 1, by omega, by go_num, by rw [Told.out 1 (by rw [if_pos (Or.inl h1)])]; rfl, by rw [← hL.out]; exact (hA.drewN _).set k d, (hB.drewN _).setOther _ _ (by simp), (hC.drewN _).setOther _ _ (by simp), (below_drewN hb _).setCell (Nat.le_refl _) _⟩
        case measure => simp [intOf]; omega
      · have d1 : decide ((d : Int) < x) = false := decide_eq_false (by omega)
        by_cases h2 : d = x
        · subst h2
          by_cases h3 : c = 1
          · have d3 : ((c : Int) == 1) = true := by simp [h3]
            go_wp2
            go_roundw
            case rel => exact ⟨k + 1, by omega, by go_num, by rw [Told.out 1 (by rw [if_pos (Or.inr ⟨rfl, h3⟩)])]; rfl, by rw [← hL.out]; exact (hA.drewN _).set k d, (hB.drewN _).setOther _ _ (by simp), (hC.drewN _).setOther _ _ (by simp), (below_drewN hb _).setCell (Nat.le_refl _) _⟩
            case measure => simp [intOf]; omega
          · have d3 : ((c : Int) == 1) = false := by rw [beq_eq_false_iff_ne]; omega
            go_wp2
            go_roundw
            case rel => exact ⟨k + 1, by omega, by go_num, by rw [Told.out 0 (by rw [if_neg (by omega)])]; rfl, by rw [← hL.out]; exact (hA.drewN _).set k d, (hB.drewN _).setOther _ _ (by simp), (hC.drewN _).setOther _ _ (by simp), (below_drewN hb _).setCell (Nat.le_refl _) _⟩
            case measure => simp [intOf]; omega
        · have d2 : ((d : Int) == (x : Int)) = false := by rw [beq_eq_false_iff_ne]; omega
          go_wp2
          go_roundw
          case rel => exact ⟨k + 1, by omega, by go_num, by rw [Told.out 0 (by rw [if_neg (by omega)])]; rfl, by rw [← hL.out]; exact (hA.drewN _).set k d, (hB.drewN _).setOther _ _ (by simp), (hC.drewN _).setOther _ _ (by simp), (below_drewN hb _).setCell (Nat.le_refl _) _⟩
          case measure => simp [intOf]; omega
    · rw [show (k : Int) = 4 by omega]
      obtain rfl : k = 4 := by omega
      rw [hwh.out] at hA
      clear hB
      go_wp2_with (first
        | (with_reducible refine wpList_load_n rfl 24 (.tmp 2) rfl w.heap.size rfl (lims (p + q)) 4 hA rfl Tryd.underlying24 Tryd.infoSc ?_)
        | (go_at_call 25
           with_reducible refine (LS.out _).mono ?_
           rintro e w3 ⟨rfl, hb3⟩
           have hC3 := hC.keep hb3 hC.lt
           have b3 := hb.trans (hb3.mono hb.size))
        | (with_reducible refine wpList_store_n rfl 24 (.tmp 4) (.tmp 45) rfl (w.heap.size + 2) (lims (a + b).val) 4 rfl rfl rfl (lims 0) hC3 Tryd.infoSc rfl w.heap.size w b3 (by omega) ?_; intro w7 Hg _ _ hb7))
      exact bodyPost_ret (results_cell_row rfl _ _ _ _ _ _ _ rfl Hg Tryd.underlying24 rfl (by rw [Tryd.infoSc]; rfl)) rfl ⟨rfl, hb7⟩
end Go.Proofs.YthhcjknkmdaeeaaDoor
