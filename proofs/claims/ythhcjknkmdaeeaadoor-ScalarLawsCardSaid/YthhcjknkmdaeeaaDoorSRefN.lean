/-
  The document's numbers modulo L: is the number that 32 bytes are below L?
-/
import Derived.Test.YthhcjknkmdaeeaaDoorSRefM
import Derived.Test.YthhcjknkmdaeeaaDoorRegion
namespace Go.Proofs.YthhcjknkmdaeeaaDoor
open Go.RowKit

/-- The block of a number. -/
structure Sc1 (w : World) (n : Nat) (W : World) : Prop where
  a : HoldsN W 24 (w.heap.size + 1) (lims n)
  d : Below w.heap.size w W
theorem Sc1.stay {w : World} {n : Nat} : ∀ W W', Sc1 w n W → Below W.heap.size W W' → Sc1 w n W' := fun _ _ h hb => ⟨h.a.keep hb h.a.lt, h.d.trans (hb.mono h.d.size)⟩

section
attribute [local go_sem ↓] load_sc

set_option maxRecDepth 100000 in
set_option maxHeartbeats 1000000 in
theorem sCheck_any (l : List UInt8) (w : World) (hl : l.length = 32) :
    Calls Tryd.prog 21 #[.agg (l.map bv).toArray] w fun e w' => e = .returned (.bool (decide (leNum l < LL))) ∧ Below w.heap.size w w' := by
  obtain ⟨hA, hC, hb, hsz⟩ := sfrom_start w l _ #[.int .u64 0, .int .u64 0, .int .u64 0, .int .u64 0] rfl (by kernel_rfl)
  have hl0 : lims 0 = lims (leNum (l.take 0)) := rfl
  have hbig : leNum l < big := by
    have h := leNum_lt l
    rw [hl] at h
    exact Nat.lt_of_lt_of_le h (by decide)
  have PR : Hid (∀ W, Calls Tryd.prog 29 #[] W fun e w' => e = .returned (.agg ((lims LL).map nv).toArray) ∧ Below W.heap.size W w') := Lib.hid fun W => sorder_any W
  have LS : Hid (∀ W, Calls Tryd.prog 30 #[.agg ((lims (leNum l)).map nv).toArray, .agg ((lims LL).map nv).toArray] W fun e w' => e = .returned (.bool (decide (leNum l < LL))) ∧ Below W.heap.size W w') := Lib.hid fun W => sless_any _ _ W hbig (by decide)
  generalize decide (leNum l < LL) = ans at *
  have Hl := Lib.hid hl
  clear hl hsz
  go_enter Tryd.func21, Tryd.ntmps21
  go_wp2_with (with_reducible refine wpList_store_n rfl 24 (.tmp 3) (.tmp 5) rfl (w.heap.size + 1) (lims 0) 4 (by with_unfolding_all rfl) (by with_unfolding_all rfl) rfl (lims 0) (by with_unfolding_all exact hC) Tryd.infoSc rfl w.heap.size w (by with_unfolding_all exact hb) (by omega) ?_
               intro w2 hD2 o2 s2 b2
               have hA2 : HoldsB w2 26 w.heap.size l := (o2 _ (by omega)).trans (by with_unfolding_all exact hA))
  clear hA hC hb o2 s2
  rw [hl0] at hD2
  clear hl0
  go_loopw [4] (fun v wr => ∃ k : Nat, k ≤ 32 ∧ v = .int .i64 (k : Int) ∧ HoldsB wr 26 w.heap.size l ∧ HoldsN wr 24 (w.heap.size + 1) (lims (leNum (l.take k))) ∧ Below w.heap.size w wr)
    (fun v _ => 32 - (intOf v).toNat)
  case atStart => exact ⟨0, Nat.zero_le _, rfl, hA2, hD2, b2⟩
  case round =>
    clear hA2 hD2 b2
    obtain ⟨k, hk, rfl, hA, hO, hb⟩ := hrel
    by_cases hltk : k < 32
    · have hltk2 : (k : Int) < 32 := by omega
      have hkl : k < l.length := by rw [Hl.out]; exact hltk
      have cA := hA.cell (j := k) hkl
      have cO := hO.cell (j := k / 8) (by rw [lims_length]; omega)
      rw [lims_get _ (by omega)] at cO
      have fO := hO.frozen (k / 8)
      have eq4 : (k : Int).tdiv 8 = ((k / 8 : Nat) : Int) := by rw [Int.tdiv_eq_ediv_of_nonneg (by omega)]; omega
      have em4 : (k : Int).tmod 8 = ((k % 8 : Nat) : Int) := by rw [Int.tmod_eq_emod_of_nonneg (by omega)]; omega
      have lq : ((k / 8 : Nat) : Int) < 4 := by omega
      have hr4 : k % 8 < 8 := by omega
      have hd : l[k].toNat < 256 := l[k].toNat_lt
      have hN : leNum (l.take k) < 256 ^ k := by
        have := leNum_lt (l.take k)
        rwa [List.length_take, Hl.out, Nat.min_eq_left hk] at this
      have hnx := Lib.hid (leNum_take l hkl)
      have hset := Lib.hid (lims_digit8 hN hd)
      have hor := Lib.hid (or_digit8 (limb_top8 hN).2 hd hr4)
      rw [hnx.out] at hset
      clear hN hnx PR LS hbig
      generalize l[k].toNat = d at *
      generalize limb (leNum (l.take k)) (k / 8) = x at *
      generalize k / 8 = qq at *
      generalize k % 8 = rr at *
      have lr : (rr : Int) < 8 := by omega
      have wr1 : IntKind.i64.wrap (8 * (rr : Int)) = 8 * rr := by simp only [IntKind.wrap, IntKind.bits, IntKind.signed]; simp; omega
      have wr2 : IntKind.u64.wrap (8 * (rr : Int)) = 8 * rr := by rw [IntKind.wrap_u64]; omega
      have lr3 : 8 * (rr : Int) < 64 := by omega
      have hs : IntKind.u64.wrap (d : Int) = (d : Int) := by rw [IntKind.wrap_u64]; omega
      go_wp2
      go_region
      rw [hor.out]
      go_wp2
      go_roundw
      case rel => exact ⟨k + 1, by omega, by go_num, hA.setOther _ _ (by simp), by rw [← hset.out]; exact hO.set qq _, (hb.setCell (by simp) _).drew⟩
      case measure => simp [intOf]; omega
    · rw [show (k : Int) = 32 by omega]
      obtain rfl : k = 32 := by omega
      rw [List.take_of_length_le (by rw [Hl.out]; omega)] at hO
      have F0 : Sc1 w (leNum l) wr := ⟨hO, hb⟩
      clear hA hO hb hbig
      generalize leNum l = n at *
      go_upto_region 6 with (fail)
      refine wp_region_lex 3 (fun _ => false) (fun _ _ _ => True) (Sc1 w n) (by kernel_rfl) (by kernel_rfl) (Sc1.stay _ _ F0 (Below.refl _ wr).drew) Sc1.stay (fun _ _ _ _ _ _ => trivial) lex_none ?_
      simp only [List.take_succ_cons, List.take_zero, List.drop_succ_cons, List.drop_zero]
      refine lexW_value (v := ?_) (by rfl) (by rfl) (fun W hW => ?_) ?_
      rotate_left
      · have l1 := run_loadSc hW.a; go_simp <;> with_reducible rfl
      simp only [Act.put, List.setIfInBounds_toArray, List.set_cons_zero, List.set_cons_succ]
      refine' lexW_call (by rfl) (by rfl) (fun W hW => ?_) (fun W hW => ?_) ?_
      rotate_left 3
      · go_simp <;> first | with_reducible rfl | exact ⟨rfl, rfl⟩
      · with_reducible exact PR.out W
      simp only [Act.put, List.setIfInBounds_toArray, List.set_cons_zero, List.set_cons_succ]
      refine' lexW_call (by rfl) (by rfl) (fun W hW => ?_) (fun W hW => ?_) ?_
      rotate_left 3
      · go_simp <;> first | with_reducible rfl | exact ⟨rfl, rfl⟩
      · with_reducible exact LS.out W
      simp only [Act.put, List.setIfInBounds_toArray, List.set_cons_zero, List.set_cons_succ]
      refine lexW_nil (fun b W hW hE => ?_)
      obtain rfl := lexEnd_none hE
      go_wp2
      go_ret
      exact ⟨rfl, hW.d⟩
end
end Go.Proofs.YthhcjknkmdaeeaaDoor
