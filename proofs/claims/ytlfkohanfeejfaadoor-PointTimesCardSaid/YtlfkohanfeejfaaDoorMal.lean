/-
  The document's curve: which points are one; eight of a point.
  The document's numbers modulo L: L, which is less, differences, the least.
  The document's numbers modulo L: a difference, limb by limb.
  The document's numbers modulo L: the least; what is below 0; sums.
-/
import Derived.Test.YtlfkohanfeejfaaDoorMac
import Derived.Test.YtlfkohanfeejfaaDoorMad
import Derived.Test.YtlfkohanfeejfaaDoorMak
namespace Go.Proofs.YtlfkohanfeejfaaDoor
open Go.RowKit

/-- A point read out of its block, under a name that the walk does not open. -/
def loadPt (t : TypeId) (a : Addr) : Sem Value := loadVar t a
theorem load_pt (a : Addr) : loadVar 26 a = loadPt 26 a := rfl
theorem run_loadPt {w : World} {g x y : Nat} (hg : HoldsN w 26 g (limsL [x, y])) : (loadPt 26 ⟨g, 0, none⟩).run Tryd.prog w = .ok (.agg ((limsL [x, y]).map nv).toArray) w :=
  run_loadVar_row w g 26 26 _ (0, 0) _ hg Tryd.underlying26 rfl (by rw [Tryd.infoPt]; rfl)
theorem pt_two (w : World) (x y u v : Nat) : Bs w (w.heap.size + 1 + 1) [(w.heap.size + 1, 26, ((limsL [u, v]).map nv).toArray), (w.heap.size, 26, ((limsL [x, y]).map nv).toArray)] ((w.alloc (.cells ((limsL [x, y]).map nv).toArray 26)).alloc (.cells ((limsL [u, v]).map nv).toArray 26)) :=
  (Bs.nil.alloc rfl).alloc (World.size_alloc ..).symm

section
attribute [local go_sem ↓] load_pt

end

/-- What the document's loop of three has summed. -/
def dbl (p : F × F) : F × F := padd p p
theorem on_dbl {p : F × F} (h : On p) : On (dbl p) := on_add h h
theorem dbl_eq (p : F × F) : padd p p = dbl p := rfl
/-- A point's numbers. -/
def vals (p : F × F) : Nat × Nat := (p.1.val, p.2.val)
theorem vals_lt (p : F × F) : (vals p).1 < big ∧ (vals p).2 < big := ⟨F.lt_big p.1, F.lt_big p.2⟩
theorem vals_pOf {p : F × F} (h : On p) : pOf (vals p).1 (vals p).2 = p := pOf_of h
theorem gaveQ_vals {w w' : World} {p : F × F} {e : Ending} (h : GaveQ w p e w') : e = .returned (.agg ((limsL [(vals p).1, (vals p).2]).map nv).toArray) ∧ Below w.heap.size w w' := h
def stp (s : Nat × Nat) : Nat → Nat × Nat
  | 0 => s
  | k + 1 => vals (dbl (pOf (stp s k).1 (stp s k).2))
theorem stp_succ (s : Nat × Nat) (k : Nat) : stp s (k + 1) = vals (dbl (pOf (stp s k).1 (stp s k).2)) := rfl
theorem stp_lt {s : Nat × Nat} (hx : s.1 < big) (hy : s.2 < big) : ∀ k, (stp s k).1 < big ∧ (stp s k).2 < big
  | 0 => ⟨hx, hy⟩
  | k + 1 => by rw [stp_succ]; exact vals_lt _
theorem stp_pOf (s : Nat × Nat) (k : Nat) : pOf (stp s (k + 1)).1 (stp s (k + 1)).2 = dbl (pOf (stp s k).1 (stp s k).2) := by
  rw [stp_succ]
  exact vals_pOf (on_dbl (on_pOf _ _))
theorem stp_three (s : Nat × Nat) : stp s 3 = vals (dbl (dbl (dbl (pOf s.1 s.2)))) := by
  rw [stp_succ s 2, stp_pOf s 1, stp_pOf s 0]
  rfl

theorem stp_end (x y : Nat) : stp (x, y) 3 = vals (dbl (dbl (dbl (pOf x y)))) := stp_three (x, y)
theorem stp_zero (x y : Nat) : (stp (x, y) 0).1 = x ∧ (stp (x, y) 0).2 = y := ⟨rfl, rfl⟩
theorem stp_add (x y k : Nat) (W : World) (hx : x < big) (hy : y < big) : Calls Tryd.prog 66 #[.agg ((limsL [(stp (x, y) k).1, (stp (x, y) k).2]).map nv).toArray, .agg ((limsL [(stp (x, y) k).1, (stp (x, y) k).2]).map nv).toArray] W fun e w' => e = .returned (.agg ((limsL [(stp (x, y) (k + 1)).1, (stp (x, y) (k + 1)).2]).map nv).toArray) ∧ Below W.heap.size W w' := by
  have h := rAdd_pt (stp (x, y) k).1 (stp (x, y) k).2 (stp (x, y) k).1 (stp (x, y) k).2 W (stp_lt hx hy k).1 (stp_lt hx hy k).2 (stp_lt hx hy k).1 (stp_lt hx hy k).2
  rw [dbl_eq] at h
  rw [stp_succ]
  exact h.mono fun e w' => gaveQ_vals

set_option maxRecDepth 100000 in
set_option maxHeartbeats 4000000 in
theorem rClear_vals (x y : Nat) (w : World) (hx : x < big) (hy : y < big) :
    Calls Tryd.prog 39 #[ptv x y] w fun e w' => e = .returned (.agg ((limsL [(vals (dbl (dbl (dbl (pOf x y))))).1, (vals (dbl (dbl (dbl (pOf x y))))).2]).map nv).toArray) ∧ Below w.heap.size w w' := by
  have AD : Hid (∀ (k : Nat) W, Calls Tryd.prog 66 #[.agg ((limsL [(stp (x, y) k).1, (stp (x, y) k).2]).map nv).toArray, .agg ((limsL [(stp (x, y) k).1, (stp (x, y) k).2]).map nv).toArray] W fun e w' => e = .returned (.agg ((limsL [(stp (x, y) (k + 1)).1, (stp (x, y) (k + 1)).2]).map nv).toArray) ∧ Below W.heap.size W w') := Lib.hid fun k W => stp_add x y k W hx hy
  have H3 := Lib.hid (stp_end x y)
  have h00 := stp_zero x y
  have F0 := pt_start w x y
  have h0 : HoldsN ((w.alloc (.cells ((limsL [x, y]).map nv).toArray 26)).alloc (.cells #[.int .u64 0, .int .u64 0, .int .u64 0, .int .u64 0, .int .u64 0, .int .u64 0, .int .u64 0, .int .u64 0] 26)) 26 w.heap.size (limsL [(stp (x, y) 0).1, (stp (x, y) 0).2]) := by rw [h00.1, h00.2]; exact F0.getN (by simp)
  have h1 : HoldsN ((w.alloc (.cells ((limsL [x, y]).map nv).toArray 26)).alloc (.cells #[.int .u64 0, .int .u64 0, .int .u64 0, .int .u64 0, .int .u64 0, .int .u64 0, .int .u64 0, .int .u64 0] 26)) 26 (w.heap.size + 1) (limsL [0, 0]) := F0.getN (by simp)
  have b0 := F0.below
  clear F0 hx hy h00
  unfold ptv
  generalize stp (x, y) = st at *
  generalize vals (dbl (dbl (dbl (pOf x y)))) = r at *
  go_enter Tryd.func39, Tryd.ntmps39
  go_upto_region 1 with (fail)
  generalize (w.alloc (.cells ((limsL [x, y]).map nv).toArray 26)).alloc (.cells #[.int .u64 0, .int .u64 0, .int .u64 0, .int .u64 0, .int .u64 0, .int .u64 0, .int .u64 0, .int .u64 0] 26) = wv at *
  go_wp2_with (fail)
  go_loopw [3] (fun v wr => ∃ k : Nat, k ≤ 3 ∧ v = .int .i64 (k : Int) ∧ HoldsN wr 26 w.heap.size (limsL [(st k).1, (st k).2]) ∧ HoldsN wr 26 (w.heap.size + 1) (limsL [0, 0]) ∧ Below w.heap.size w wr)
    (fun v _ => 3 - (intOf v).toNat)
  case atStart => exact ⟨0, Nat.zero_le _, rfl, h0, h1, b0⟩
  case round =>
    clear h0 h1 b0
    obtain ⟨k, hk, rfl, hA, hC, hb⟩ := hrel
    by_cases hlt : k < 3
    · have hlt2 : (k : Int) < 3 := by omega
      have AK : Hid (∀ W, Calls Tryd.prog 66 #[.agg ((limsL [(st k).1, (st k).2]).map nv).toArray, .agg ((limsL [(st k).1, (st k).2]).map nv).toArray] W fun e w' => e = .returned (.agg ((limsL [(st (k + 1)).1, (st (k + 1)).2]).map nv).toArray) ∧ Below W.heap.size W w') := Lib.hid fun W => AD.out k W
      generalize hs : st (k + 1) = s1 at *
      have HS := Lib.hid hs
      clear hs AD H3
      generalize st k = s0 at *
      go_wp2_with (first
        | (with_reducible refine wpList_load_pt rfl 26 (.tmp 1) rfl w.heap.size rfl (limsL [s0.1, s0.2]) 8 hA rfl Tryd.underlying26 Tryd.infoPt ?_)
        | (go_at_call 66
           with_reducible refine (AK.out _).mono ?_
           rintro e w3 ⟨rfl, hb3⟩
           have hA3 := hA.keep hb3 hA.lt
           have hC3 := hC.keep hb3 hC.lt
           have b3 := hb.trans (hb3.mono hb.size))
        | (with_reducible refine wpList_store_n rfl 26 (.tmp 1) (.tmp 10) rfl w.heap.size (limsL [s1.1, s1.2]) 8 rfl rfl rfl _ hA3 Tryd.infoPt rfl w.heap.size w b3 (Nat.le_refl _) ?_
           intro w4 hA4 o4 s4 b4
           have hC4 := hC3.oth o4 (by omega)
           clear s4)
        | fail)
      go_roundw
      case rel => exact ⟨k + 1, by omega, by go_num, by rw [HS.out]; exact hA4, hC4, b4⟩
      case measure => simp [intOf]; omega
    · rw [show (k : Int) = 3 by omega]
      obtain rfl : k = 3 := by omega
      rw [H3.out] at hA
      clear AD H3
      go_wp2_with (first
        | (with_reducible refine wpList_load_pt rfl 26 (.tmp 1) rfl w.heap.size rfl (limsL [r.1, r.2]) 8 hA rfl Tryd.underlying26 Tryd.infoPt ?_)
        | (with_reducible refine wpList_store_n rfl 26 (.tmp 2) (.tmp 11) rfl (w.heap.size + 1) (limsL [r.1, r.2]) 8 rfl rfl rfl (limsL [0, 0]) hC Tryd.infoPt rfl w.heap.size w hb (by omega) ?_; intro w9 Hg _ _ b9)
        | fail)
      exact bodyPost_ret (results_cell_row rfl _ _ _ _ _ _ _ rfl Hg Tryd.underlying26 rfl (by rw [Tryd.infoPt]; rfl)) rfl ⟨rfl, b9⟩
theorem gaveQ_of {w w' : World} {p : F × F} {e : Ending} (h : e = .returned (.agg ((limsL [(vals p).1, (vals p).2]).map nv).toArray) ∧ Below w.heap.size w w') : GaveQ w p e w' := h
theorem rClear_pt (x y : Nat) (w : World) (hx : x < big) (hy : y < big) :
    Calls Tryd.prog 39 #[ptv x y] w (GaveQ w (dbl (dbl (dbl (pOf x y))))) := (rClear_vals x y w hx hy).mono fun _ _ h => gaveQ_of h
end Go.Proofs.YtlfkohanfeejfaaDoor

namespace Go.Proofs.YtlfkohanfeejfaaDoor
open Go.RowKit

theorem Tryd.infoSc : (Tryd.prog.info? 28).map (·.size) = some 4 := by kernel_rfl
theorem sc_start (w : World) (m : Nat) (c1 : Array Value) (h1 : c1 = ((lims m).map nv).toArray) : HoldsN (w.alloc (.cells c1 28)) 28 w.heap.size (lims m) ∧ Below w.heap.size w (w.alloc (.cells c1 28)) ∧ (w.alloc (.cells c1 28)).heap.size = w.heap.size + 1 := four_start w 28 m c1 h1
theorem sc_start2 (w : World) (m n : Nat) (c1 c2 : Array Value) (h1 : c1 = ((lims m).map nv).toArray) (h2 : c2 = ((lims n).map nv).toArray) :
    HoldsN ((w.alloc (.cells c1 28)).alloc (.cells c2 28)) 28 w.heap.size (lims m) ∧ HoldsN ((w.alloc (.cells c1 28)).alloc (.cells c2 28)) 28 (w.heap.size + 1) (lims n) ∧ Below w.heap.size w ((w.alloc (.cells c1 28)).alloc (.cells c2 28)) ∧ ((w.alloc (.cells c1 28)).alloc (.cells c2 28)).heap.size = w.heap.size + 2 := four_start2 w 28 m n c1 c2 h1 h2
theorem sc_start3 (w : World) (m n k : Nat) (c1 c2 c3 : Array Value) (h1 : c1 = ((lims m).map nv).toArray) (h2 : c2 = ((lims n).map nv).toArray) (h3 : c3 = ((lims k).map nv).toArray) :
    HoldsN (((w.alloc (.cells c1 28)).alloc (.cells c2 28)).alloc (.cells c3 28)) 28 w.heap.size (lims m) ∧ HoldsN (((w.alloc (.cells c1 28)).alloc (.cells c2 28)).alloc (.cells c3 28)) 28 (w.heap.size + 1) (lims n) ∧ HoldsN (((w.alloc (.cells c1 28)).alloc (.cells c2 28)).alloc (.cells c3 28)) 28 (w.heap.size + 2) (lims k) ∧ Below w.heap.size w (((w.alloc (.cells c1 28)).alloc (.cells c2 28)).alloc (.cells c3 28)) ∧ (((w.alloc (.cells c1 28)).alloc (.cells c2 28)).alloc (.cells c3 28)).heap.size = w.heap.size + 3 := four_start3 w 28 m n k c1 c2 c3 h1 h2 h3

set_option maxRecDepth 100000 in
theorem sorder_any (w : World) : Calls Tryd.prog 79 #[] w (GaveF w LL) := by
  obtain ⟨z0, b0, _⟩ := sc_start w 0 #[.int .u64 0, .int .u64 0, .int .u64 0, .int .u64 0] (by kernel_rfl)
  have hP : Hid (Value.agg #[.int .u64 6346243789798364141, .int .u64 1503914060200516822, .int .u64 0, .int .u64 1152921504606846976] = .agg ((lims LL).map nv).toArray) := Lib.hid (by kernel_rfl)
  go_enter Tryd.func79, Tryd.ntmps79
  go_wp2_with (with_reducible refine wpList_store_n rfl 28 (.tmp 0) (.tmp 1) rfl w.heap.size (lims LL) 4 rfl (by with_unfolding_all exact hP.out) rfl (lims 0) (by with_unfolding_all exact z0) Tryd.infoSc rfl w.heap.size w (by with_unfolding_all exact b0) (Nat.le_refl _) ?_; intro w2 Hg _ _ hb2)
  exact bodyPost_ret (results_cell_row rfl _ _ w.heap.size _ _ _ _ rfl Hg Tryd.underlying28 rfl (by rw [Tryd.infoSc]; rfl)) rfl ⟨rfl, hb2⟩

set_option maxRecDepth 100000 in
set_option maxHeartbeats 1000000 in
theorem sless_any (m n : Nat) (w : World) (hm : m < big) (hn : n < big) :
    Calls Tryd.prog 80 #[fev m, fev n] w fun e w' => e = .returned (.bool (decide (m < n))) ∧ Below w.heap.size w w' := by
  obtain ⟨hA, hB, hb, _⟩ := sc_start2 w m n _ _ rfl rfl
  rw [fev_eq, fev_eq]
  go_enter Tryd.func80, Tryd.ntmps80
  go_wp2
  go_loopw [5] (fun v wr => ∃ k : Nat, k ≤ 4 ∧ v = .int .i64 ((k : Int) - 1) ∧ m / 18446744073709551616 ^ k = n / 18446744073709551616 ^ k ∧ HoldsN wr 28 w.heap.size (lims m) ∧ HoldsN wr 28 (w.heap.size + 1) (lims n) ∧ Below w.heap.size w wr)
    (fun v _ => (intOf v + 1).toNat)
  case atStart => exact ⟨4, Nat.le_refl _, rfl, by rw [hi_top hm, hi_top hn], hA, hB, hb⟩
  case round =>
    clear hA hB hb
    obtain ⟨k, hk, rfl, hhi, hA, hB, hb⟩ := hrel
    rcases k with _ | j
    · rw [Nat.pow_zero, Nat.div_one, Nat.div_one] at hhi
      rw [show ((0 : Nat) : Int) - 1 = -1 from rfl]
      go_wp2
      go_ret
      exact ⟨by rw [decide_eq_false (by omega)]; rfl, hb⟩
    · rw [show ((j + 1 : Nat) : Int) - 1 = (j : Int) by omega]
      have hj : j < 4 := by omega
      have hj2 : (j : Int) < 4 := by omega
      have ca := hA.cell (j := j) (by rw [lims_length]; exact hj)
      have cb := hB.cell (j := j) (by rw [lims_length]; exact hj)
      rw [lims_get _ hj] at ca cb
      have hs := @same_at m n j hhi
      have hl := @less_at m n j hhi
      have hl' := @less_at n m j hhi.symm
      generalize limb m j = x at *
      generalize limb n j = y at *
      by_cases e : x = y
      · subst e
        go_wp2
        go_region
        go_wp2
        go_roundw
        case rel => exact ⟨j, by omega, by go_num, hs (by simp), hA, hB, hb.drew⟩
        case measure => simp [intOf]
      · have e' : ¬ (x : Int) = y := by omega
        go_wp2
        go_region
        go_wp2
        go_region
        go_wp2
        go_ret
        exact ⟨by
          rcases Nat.lt_or_gt_of_ne e with h | h
          · rw [decide_eq_true (hl h), decide_eq_true (by omega)]; rfl
          · rw [decide_eq_false (Nat.lt_asymm (hl' h)), decide_eq_false (by omega)]; rfl, hb.drew.drew⟩

end Go.Proofs.YtlfkohanfeejfaaDoor

namespace Go.Proofs.YtlfkohanfeejfaaDoor
open Go.RowKit

set_option maxRecDepth 100000 in
set_option maxHeartbeats 1000000 in
theorem stake_any (m n : Nat) (w : World) (hm : m < big) (hn : n ≤ m) :
    Calls Tryd.prog 81 #[fev m, fev n] w (GaveF w (m - n)) := by
  obtain ⟨hA, hB, hC, hb, _⟩ := sc_start3 w m n 0 _ _ #[.int .u64 0, .int .u64 0, .int .u64 0, .int .u64 0] rfl rfl (by kernel_rfl)
  have hwh := Lib.hid (tookL_whole hm hn)
  rw [fev_eq, fev_eq]
  go_enter Tryd.func81, Tryd.ntmps81
  go_wp2
  go_loopw [5, 6] (fun vb vi wr => ∃ k : Nat, k ≤ 4 ∧ vi = .int .i64 (k : Int) ∧ vb = .int .u64 (tookB m n k : Int) ∧ HoldsN wr 28 w.heap.size (tookL m n k) ∧ HoldsN wr 28 (w.heap.size + 1) (lims n) ∧ HoldsN wr 28 (w.heap.size + 2) (lims 0) ∧ Below w.heap.size w wr)
    (fun _ vi _ => 4 - (intOf vi).toNat)
  case atStart => exact ⟨0, Nat.zero_le _, rfl, rfl, hA, hB, hC, hb⟩
  case round =>
    clear hA hB hC hb
    obtain ⟨k, hk, rfl, rfl, hA, hB, hC, hb⟩ := hrel
    by_cases hlt : k < 4
    · have hj2 : (k : Int) < 4 := by omega
      have ca := hA.cell (j := k) (by rw [tookL_length m n hk]; exact hlt)
      have cb := hB.cell (j := k) (by rw [lims_length]; exact hlt)
      rw [tookL_get m n hlt] at ca
      rw [lims_get _ hlt] at cb
      have hf := hA.frozen k
      have hL := Lib.hid (tookL_succ m n hlt)
      have hBs := Lib.hid (tookB_succ m n hlt)
      have hw := Lib.hid (lost_wrap (limb_lt m k) (limb_lt n k) (tookB_bit m n k))
      generalize hx : limb m k = x at *
      generalize hy : limb n k = y at *
      generalize hc : tookB m n k = c at *
      generalize (x + 18446744073709551616 - (y + c)) % 18446744073709551616 = d at *
      go_wp2
      go_region
      rw [hw.out]
      have told : ∀ b : Nat, b = (if x < y ∨ (x = y ∧ c = 1) then 1 else 0) → tookB m n (k + 1) = b := fun b h => by rw [hBs.out, h]
      have Told := Lib.hid told
      clear told
      go_wp2
      by_cases h1 : x < y
      · have d1 : decide ((x : Int) < y) = true := decide_eq_true (by omega)
        go_quiet (fail)
        go_wp2
        go_roundw
        case rel => exact ⟨k + 1, by omega, by go_num, by rw [Told.out 1 (by rw [if_pos (Or.inl h1)])]; rfl, by rw [← hL.out]; exact (hA.drewN _).set k d, (hB.drewN _).setOther _ _ (by simp), (hC.drewN _).setOther _ _ (by simp), (below_drewN hb _).setCell (Nat.le_refl _) _⟩
        case measure => simp [intOf]; omega
      · have d1 : decide ((x : Int) < y) = false := decide_eq_false (by omega)
        by_cases h2 : x = y
        · have d2 : ((x : Int) == (y : Int)) = true := by simp [h2]
          by_cases h3 : c = 1
          · have d3 : ((c : Int) == 1) = true := by simp [h3]
            go_quiet (fail)
            go_wp2
            go_roundw
            case rel => exact ⟨k + 1, by omega, by go_num, by rw [Told.out 1 (by rw [if_pos (Or.inr ⟨h2, h3⟩)])]; rfl, by rw [← hL.out]; exact (hA.drewN _).set k d, (hB.drewN _).setOther _ _ (by simp), (hC.drewN _).setOther _ _ (by simp), (below_drewN hb _).setCell (Nat.le_refl _) _⟩
            case measure => simp [intOf]; omega
          · have d3 : ((c : Int) == 1) = false := by rw [beq_eq_false_iff_ne]; omega
            go_quiet (fail)
            go_wp2
            go_roundw
            case rel => exact ⟨k + 1, by omega, by go_num, by rw [Told.out 0 (by rw [if_neg (by omega)])]; rfl, by rw [← hL.out]; exact (hA.drewN _).set k d, (hB.drewN _).setOther _ _ (by simp), (hC.drewN _).setOther _ _ (by simp), (below_drewN hb _).setCell (Nat.le_refl _) _⟩
            case measure => simp [intOf]; omega
        · have d2 : ((x : Int) == (y : Int)) = false := by rw [beq_eq_false_iff_ne]; omega
          go_quiet (fail)
          go_wp2
          go_roundw
          case rel => exact ⟨k + 1, by omega, by go_num, by rw [Told.out 0 (by rw [if_neg (by omega)])]; rfl, by rw [← hL.out]; exact (hA.drewN _).set k d, (hB.drewN _).setOther _ _ (by simp), (hC.drewN _).setOther _ _ (by simp), (below_drewN hb _).setCell (Nat.le_refl _) _⟩
          case measure => simp [intOf]; omega
    · rw [show (k : Int) = 4 by omega]
      obtain rfl : k = 4 := by omega
      rw [hwh.out] at hA
      clear hB
      go_wp2_with (first
        | (with_reducible refine wpList_load_n rfl 28 (.tmp 2) rfl w.heap.size rfl (lims (m - n)) 4 hA rfl Tryd.underlying28 Tryd.infoSc ?_)
        | (with_reducible refine wpList_store_n rfl 28 (.tmp 4) (.tmp 44) rfl (w.heap.size + 2) (lims (m - n)) 4 rfl rfl rfl (lims 0) hC Tryd.infoSc rfl w.heap.size w hb (by omega) ?_; intro w7 Hg _ _ hb7))
      exact bodyPost_ret (results_cell_row rfl _ _ _ _ _ _ _ rfl Hg Tryd.underlying28 rfl (by rw [Tryd.infoSc]; rfl)) rfl ⟨rfl, hb7⟩
end Go.Proofs.YtlfkohanfeejfaaDoor

namespace Go.Proofs.YtlfkohanfeejfaaDoor
open Go.RowKit

theorem less_LL {x : Nat} : ¬ x < LL → LL ≤ x ∧ x - LL < x ∧ toS (x - LL) = toS x := fun h => by
  have hp : 0 < LL := by decide
  refine ⟨by omega, by omega, ?_⟩
  rw [toS_eq]
  have e : x = (x - LL) + LL * 1 := by omega
  conv => rhs; rw [e, Nat.add_mul_mod_self_left]
theorem toS_small {x : Nat} (h : x < LL) : (toS x).val = x := Nat.mod_eq_of_lt h

set_option maxRecDepth 100000 in
set_option maxHeartbeats 1000000 in
theorem sLeast_any (m : Nat) (w : World) (hm : m < big) :
    Calls Tryd.prog 68 #[fev m] w (GaveF w (toS m).val) := by
  obtain ⟨hA, hC, hb, hsz⟩ := sc_start2 w m 0 _ #[.int .u64 0, .int .u64 0, .int .u64 0, .int .u64 0] rfl (by kernel_rfl)
  have LS : Hid (∀ (x : Nat) W, x < big → Calls Tryd.prog 80 #[.agg ((lims x).map nv).toArray, .agg ((lims LL).map nv).toArray] W fun e w' => e = .returned (.bool (decide (x < LL))) ∧ Below W.heap.size W w') := Lib.hid fun x W hx => sless_any x LL W hx (by decide)
  have TK : Hid (∀ (x : Nat) W, x < big → LL ≤ x → Calls Tryd.prog 81 #[.agg ((lims x).map nv).toArray, .agg ((lims LL).map nv).toArray] W fun e w' => e = .returned (.agg ((lims (x - LL)).map nv).toArray) ∧ Below W.heap.size W w') := Lib.hid fun x W hx hp => stake_any x LL W hx hp
  rw [fev_eq]
  go_enter Tryd.func68, Tryd.ntmps68
  go_wp2_with (first
    | (go_at_call 79
       refine (sorder_any _).mono ?_
       rintro e w1 ⟨rfl, hb1⟩
       have hA1 := hA.keep hb1 (by omega)
       have hC1 := hC.keep hb1 (by omega)
       have b1 := hb.trans (hb1.mono (by omega))
       have s1 := hb1.size
       obtain ⟨z1, _, sz1⟩ := sc_start w1 0 #[.int .u64 0, .int .u64 0, .int .u64 0, .int .u64 0] (by kernel_rfl)
       have b1a := b1.alloc b1.size (.cells #[.int .u64 0, .int .u64 0, .int .u64 0, .int .u64 0] 28)
       have hA1a := hA1.alloc (.cells #[.int .u64 0, .int .u64 0, .int .u64 0, .int .u64 0] 28)
       have hC1a := hC1.alloc (.cells #[.int .u64 0, .int .u64 0, .int .u64 0, .int .u64 0] 28))
    | (with_reducible refine wpList_store_n rfl 28 (.tmp 3) (.tmp 4) rfl w1.heap.size (lims LL) 4 rfl rfl rfl (lims 0) (by with_unfolding_all exact z1) Tryd.infoSc rfl w.heap.size w (by with_unfolding_all exact b1a) (by omega) ?_
       intro w2 hP o2 s2 b2
       have hA2 : HoldsN w2 28 w.heap.size (lims m) := (o2 _ (by omega)).trans (by with_unfolding_all exact hA1a)
       have hC2 : HoldsN w2 28 (w.heap.size + 1) (lims 0) := (o2 _ (by omega)).trans (by with_unfolding_all exact hC1a)))
  have s12 : w.heap.size + 2 ≤ w1.heap.size := by omega
  clear hA hC hb hsz hA1 hC1 hb1 b1 s1 z1 sz1 b1a hA1a hC1a o2 s2
  try dsimp only [Act.put]
  go_loopw [] (fun wr => ∃ x : Nat, x < big ∧ toS x = toS m ∧ HoldsN wr 28 w.heap.size (lims x) ∧ HoldsN wr 28 (w.heap.size + 1) (lims 0) ∧ HoldsN wr 28 w1.heap.size (lims LL) ∧ Below w.heap.size w wr)
    (fun wr => numAt wr w.heap.size)
  case atStart => exact ⟨m, hm, rfl, hA2, hC2, hP, b2⟩
  case round =>
    clear hA2 hC2 hP b2
    obtain ⟨x, hx, hxm, hA, hC, hP, hb⟩ := hrel
    have hnum := Lib.hid (numAt_of hA hx)
    by_cases hlt : x < LL
    · have hv := Lib.hid ((toS_small hlt).symm.trans (congrArg Fin.val hxm))
      have hd : decide (x < LL) = true := decide_eq_true hlt
      go_wp2_with (first
        | (with_reducible refine wpList_load_n rfl 28 (.tmp 1) rfl w.heap.size rfl (lims x) 4 hA rfl Tryd.underlying28 Tryd.infoSc ?_)
        | (with_reducible refine wpList_load_n rfl 28 (.tmp 3) rfl w1.heap.size rfl (lims LL) 4 hP rfl Tryd.underlying28 Tryd.infoSc ?_)
        | (go_at_call 80
           refine (LS.out x _ hx).mono ?_
           rintro e w3 ⟨rfl, hb3⟩
           rw [hd]
           have hA := hA.keep hb3 hA.lt
           have hC := hC.keep hb3 hC.lt
           have hb := hb.trans (hb3.mono hb.size))
        | (with_reducible refine wpList_store_n rfl 28 (.tmp 2) (.tmp 12) rfl (w.heap.size + 1) (lims x) 4 rfl rfl rfl (lims 0) hC Tryd.infoSc rfl w.heap.size w hb (by omega) ?_; intro w7 Hg _ _ hb7))
      rw [hv.out] at Hg
      exact bodyPost_ret (results_cell_row rfl _ _ _ _ _ _ _ rfl Hg Tryd.underlying28 rfl (by rw [Tryd.infoSc]; rfl)) rfl ⟨rfl, hb7⟩
    · obtain ⟨hp, hls, hto⟩ := less_LL hlt
      have hd : decide (x < LL) = false := decide_eq_false hlt
      go_wp2_with (first
        | (with_reducible refine wpList_load_n rfl 28 (.tmp 1) rfl w.heap.size rfl (lims x) 4 hA rfl Tryd.underlying28 Tryd.infoSc ?_)
        | (with_reducible refine wpList_load_n rfl 28 (.tmp 3) rfl w1.heap.size rfl (lims LL) 4 hP rfl Tryd.underlying28 Tryd.infoSc ?_)
        | (go_at_call 80
           refine (LS.out x _ hx).mono ?_
           rintro e w3 ⟨rfl, hb3⟩
           rw [hd]
           have hA := hA.keep hb3 hA.lt
           have hC := hC.keep hb3 hC.lt
           have hP := hP.keep hb3 hP.lt
           have hb := hb.trans (hb3.mono hb.size))
        | (go_at_call 81
           refine (TK.out x _ hx hp).mono ?_
           rintro e w4 ⟨rfl, hb4⟩
           have hA4 := hA.keep hb4 hA.lt
           have hC4 := hC.keep hb4 hC.lt
           have hP4 := hP.keep hb4 hP.lt
           have b4 := hb.trans (hb4.mono hb.size))
        | (with_reducible refine wpList_store_n rfl 28 (.tmp 1) (.tmp 11) rfl w.heap.size (lims (x - LL)) 4 rfl rfl rfl (lims x) hA4 Tryd.infoSc rfl w.heap.size w b4 (Nat.le_refl _) ?_
           intro w7 hA7 o7 s7 b7
           have hC7 := hC4.oth o7 (by omega)
           have hP7 := hP4.oth o7 (by omega)))
      try dsimp only [Act.put]
      go_roundw
      case rel => exact ⟨x - LL, by omega, hto.trans hxm, hA7, hC7, hP7, b7⟩
      case measure => rw [hnum.out, numAt_of hA7 (by omega)]; exact hls
end Go.Proofs.YtlfkohanfeejfaaDoor
