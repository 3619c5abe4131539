/-
  CurveSteps: a point times a small number is as many of it, added one by one. Whatever the numbers are.
-/
import Derived.Test.YthaheekjmofgnaaDoorMba
namespace Go.Proofs.YthaheekjmofgnaaDoor
open Go.RowKit
namespace Crv

section
attribute [local go_sem ↓] load_pt load_s6

set_option maxRecDepth 100000 in
set_option maxHeartbeats 8000000 in
theorem CurveSteps_any (p : Nat × Nat) (u : Nat) (w : World) (ok_p : ok p) (hu : u < 256) (L0 : Laid w) :
    Calls Tryd.prog 7 #[.agg ((limsL [p.1, p.2]).map nv).toArray, .int .u8 (u : Int)] w fun e w' => e = .returned (.bool true) ∧ Below w.heap.size w w' := by
  have hsz0 := L0.size
  have LK : Hid (∀ W, Below w.heap.size w W → Laid W) := Lib.hid fun W hb => L0.keep hb hsz0
  have AW : Hid (∀ W, Laid W → Calls Tryd.prog 9 #[] W fun e w' => e = .returned (.bool true) ∧ Below W.heap.size W w') := Lib.hid fun W L => awake_any W L
  obtain ⟨pP, q_p⟩ : ∃ zz : Pt, pt p = zz := ⟨_, rfl⟩
  obtain ⟨kk, d_kk⟩ : ∃ z : Nat, z = u % 40 := ⟨_, rfl⟩
  obtain ⟨sP, d_s⟩ : ∃ zz : Pt, zz = Pt.times kk pP := ⟨_, rfl⟩
  obtain ⟨s, n_s⟩ : ∃ zz : Nat × Nat, zz = nums sP := ⟨_, rfl⟩
  have ok_s : ok s := by rw [n_s]; exact nums_ok _
  have q_s : pt s = sP := by rw [n_s]; exact pt_nums _
  obtain ⟨cP, d_c⟩ : ∃ zz : Pt, zz = Pt.times 8 pP := ⟨_, rfl⟩
  obtain ⟨c, n_c⟩ : ∃ zz : Nat × Nat, zz = nums cP := ⟨_, rfl⟩
  have ok_c : ok c := by rw [n_c]; exact nums_ok _
  have q_c : pt c = cP := by rw [n_c]; exact pt_nums _
  obtain ⟨mP, d_m⟩ : ∃ zz : Pt, zz = pP.opp := ⟨_, rfl⟩
  obtain ⟨m, n_m⟩ : ∃ zz : Nat × Nat, zz = nums mP := ⟨_, rfl⟩
  have ok_m : ok m := by rw [n_m]; exact nums_ok _
  have q_m : pt m = mP := by rw [n_m]; exact pt_nums _
  obtain ⟨yP, d_y⟩ : ∃ zz : Pt, zz = pP := ⟨_, rfl⟩
  obtain ⟨y, n_y⟩ : ∃ zz : Nat × Nat, zz = nums yP := ⟨_, rfl⟩
  have ok_y : ok y := by rw [n_y]; exact nums_ok _
  have q_y : pt y = yP := by rw [n_y]; exact pt_nums _
  have hkk : kk < 40 := by rw [d_kk]; exact Nat.mod_lt _ (by omega)
  have hk64 : kk < 18446744073709551616 := by omega
  obtain ⟨ss, hss⟩ : ∃ f : Nat → Nat × Nat, f = fun j => nums (Pt.times j pP) := ⟨_, rfl⟩
  have SE : Hid (ss kk = s) := Lib.hid (by rw [hss, n_s, d_s])
  have KZ : Hid (∀ W, Laid W → Calls Tryd.prog 22 #[] W fun e w' => e = .returned (.agg ((limsL [(ss 0).1, (ss 0).2]).map nv).toArray) ∧ Below W.heap.size W w') := Lib.hid fun W L => by
    have h := zero_q W L
    rw [show nums Pt.none = ss 0 by rw [hss]; rfl] at h
    exact h
  have AD : Hid (∀ j W, Laid W → Calls Tryd.prog 12 #[.agg ((limsL [(ss j).1, (ss j).2]).map nv).toArray, .agg ((limsL [p.1, p.2]).map nv).toArray] W fun e w' => e = .returned (.agg ((limsL [(ss (j + 1)).1, (ss (j + 1)).2]).map nv).toArray) ∧ Below W.heap.size W w') := Lib.hid fun j W L => by
    have hj : ss j = nums (Pt.times j pP) := by rw [hss]
    have h := add_q (ss j) p W (by rw [hj]; exact nums_ok _) ok_p L
    have hj1 : ss (j + 1) = nums (Pt.times (j + 1) pP) := by rw [hss]
    rw [show nums ((pt (ss j)).plus (pt p)) = ss (j + 1) by rw [hj, pt_nums, q_p, hj1, Pt.times_succ]] at h
    exact h
  have fl_m := fun W => run_field_y m W
  have fl_y := fun W => run_field_y y W
  have cv1 : IntKind.i64.wrap (u : Int) = (u : Int) := by rw [IntKind.wrap_i64]; omega
  have cv2 : (u : Int).tmod 40 = (kk : Int) := by rw [Int.tmod_eq_emod_of_nonneg (by omega), d_kk]; omega
  have cv3 : IntKind.u64.wrap (kk : Int) = (kk : Int) := by rw [IntKind.wrap_u64]; omega
  have K1 : Hid (∀ W, Laid W → Calls Tryd.prog 18 #[.agg #[.int .u64 (kk : Int), .int .u64 0, .int .u64 0, .int .u64 0], .agg ((limsL [p.1, p.2]).map nv).toArray] W fun e w' => e = .returned (.agg ((limsL [s.1, s.2]).map nv).toArray) ∧ Below W.heap.size W w') := Lib.hid fun W L => by
    have h := mul_q kk p W (Nat.lt_trans hk64 (by decide)) ok_p L
    rw [show nums (Pt.times (toS kk).val (pt p)) = s from (by rw [q_p, n_s]; exact congrArg nums (by rw [toS_small (Nat.lt_trans hkk (by decide)), d_s]))] at h
    rw [← litSk kk hk64] at h
    exact h
  have K2 : Hid (∀ W, Laid W → Calls Tryd.prog 20 #[.agg ((limsL [p.1, p.2]).map nv).toArray] W fun e w' => e = .returned (.agg ((limsL [c.1, c.2]).map nv).toArray) ∧ Below W.heap.size W w') := Lib.hid fun W L => by
    have h := clear_q p W ok_p L
    rw [show nums (Pt.times 8 (pt p)) = c from (by rw [q_p, n_c]; exact congrArg nums (d_c.symm))] at h
    exact h
  have K3 : Hid (∀ W, Laid W → Calls Tryd.prog 18 #[.agg #[.int .u64 8, .int .u64 0, .int .u64 0, .int .u64 0], .agg ((limsL [p.1, p.2]).map nv).toArray] W fun e w' => e = .returned (.agg ((limsL [c.1, c.2]).map nv).toArray) ∧ Below W.heap.size W w') := Lib.hid fun W L => by
    have h := mul_q 8 p W (by decide) ok_p L
    rw [show nums (Pt.times (toS 8).val (pt p)) = c from (by rw [q_p, n_c]; exact congrArg nums (by rw [toS_small (by decide), d_c]))] at h
    rw [← litS8] at h
    exact h
  have K4 : Hid (∀ W, Laid W → Calls Tryd.prog 14 #[.agg ((limsL [p.1, p.2]).map nv).toArray] W fun e w' => e = .returned (.agg ((limsL [m.1, m.2]).map nv).toArray) ∧ Below W.heap.size W w') := Lib.hid fun W L => by
    have h := neg_q p W ok_p L
    rw [show nums (pt p).opp = m from (by rw [q_p, n_m]; exact congrArg nums (d_m.symm))] at h
    exact h
  have K5 : Hid (∀ W, Laid W → Calls Tryd.prog 14 #[.agg ((limsL [m.1, m.2]).map nv).toArray] W fun e w' => e = .returned (.agg ((limsL [y.1, y.2]).map nv).toArray) ∧ Below W.heap.size W w') := Lib.hid fun W L => by
    have h := neg_q m W ok_m L
    rw [show nums (pt m).opp = y from (by rw [q_m, n_y]; exact congrArg nums (by rw [d_m, d_y, Pt.opp_opp]))] at h
    exact h
  have K6 : Hid (∀ W, Laid W → Calls Tryd.prog 26 #[.agg ((lims m.2).map nv).toArray, .agg ((lims y.2).map nv).toArray] W fun e w' => e = .returned (.bool true) ∧ Below W.heap.size W w') := Lib.hid fun W L => by
    have h := fsame_q m.2 y.2 W ok_m.2 ok_y.2 L
    rw [show decide (toF m.2 = toF y.2) = true from (by rw [n_m, n_y, d_m, d_y, opp_y]; exact decide_eq_true rfl)] at h
    exact h
  have eq_c := fun W => eql_pp c ok_c W
  have eq_s := fun W => eql_pp s ok_s W
  have gf := fun x y c d W => run_guard_pt x y c d W
  clear L0 hsz0 q_p ok_p d_s n_s ok_s q_s d_c n_c ok_c q_c d_m n_m ok_m q_m d_y n_y ok_y q_y hk64 hss d_kk hu
  have F0 : Bs w (w.heap.size + 1) [(w.heap.size, 26, ((limsL [p.1, p.2]).map nv).toArray)] (w.alloc (.cells ((limsL [p.1, p.2]).map nv).toArray 26)) := (Bs.nil).alloc (by rfl)
  go_enter Tryd.func7, Tryd.ntmps7
  go_upto_region 1 with (fail)
  generalize (w.alloc (.cells ((limsL [p.1, p.2]).map nv).toArray 26)) = wv at *
  go_upto_region 2 with (first
    | (go_at_call 9
       with_reducible refine (AW.out _ (LK.out _ F0.below)).mono ?_
       rintro e w1 ⟨rfl, hb1⟩
       have F1 := Bs.stay _ _ F0 hb1)
    | fail)
  clear F0 hb1
  go_upto_region 4 with (first
    | (go_at_call 22
       with_reducible refine (KZ.out _ (LK.out _ F1.below)).mono ?_
       rintro e w2 ⟨rfl, hb2⟩
       have F2 := Bs.stay _ _ F1 hb2
       have F2a := Bs.stay _ _ F2 ((Below.refl _ w2).alloc (Nat.le_refl _) (.cells #[.int .u64 0, .int .u64 0, .int .u64 0, .int .u64 0, .int .u64 0, .int .u64 0, .int .u64 0, .int .u64 0] 26))
       have z2 := pt_new6 w2)
    | (with_reducible refine wpList_store_n rfl 26 (.tmp 7) (.tmp 13) rfl w2.heap.size (limsL [(ss 0).1, (ss 0).2]) 8 rfl rfl rfl (limsL [0, 0]) (by with_unfolding_all exact z2) Tryd.infoPt rfl w.heap.size w (by with_unfolding_all exact F2a.below) F2.below.size ?_
       intro w3 H3 o3 s3 b3
       have F3 := Bs.add (by with_unfolding_all exact F2a) F2.len H3 o3 b3
       clear s3)
    | fail)
  have hg2 := F2.len
  clear hb2 F1 F2a z2 o3 H3 b3 F2
  generalize w2.heap.size = g7 at *
  go_wp2_with (fail)
  go_loopw [8] (fun vi wr => ∃ j : Nat, j ≤ kk ∧ vi = .int .i64 (j : Int) ∧ Bs w (g7 + 1) [(g7, 26, ((limsL [(ss j).1, (ss j).2]).map nv).toArray), (w.heap.size, 26, ((limsL [p.1, p.2]).map nv).toArray)] wr)
    (fun vi _ => kk - (intOf vi).toNat)
  case atStart => exact ⟨0, Nat.zero_le _, rfl, F3⟩
  case round =>
    clear F3
    obtain ⟨j, hj, rfl, FB⟩ := hrel
    by_cases hlt : j < kk
    · have hlt2 : (j : Int) < (kk : Int) := by omega
      have hS := FB.getN (g := g7) (l := limsL [(ss j).1, (ss j).2]) (by repeat (first | exact List.mem_cons_self .. | refine List.mem_cons_of_mem _ ?_))
      have hP := FB.getN (g := w.heap.size) (l := limsL [p.1, p.2]) (by repeat (first | exact List.mem_cons_self .. | refine List.mem_cons_of_mem _ ?_))
      have AK := Lib.hid (AD.out j)
      generalize hs1 : ss (j + 1) = s1 at *
      have HS1 := Lib.hid hs1
      clear hs1 AD SE
      generalize ss j = s0 at *
      go_wp2_with (first
        | (with_reducible refine wpList_load_pt rfl 26 (.tmp 7) rfl g7 rfl (limsL [s0.1, s0.2]) 8 hS rfl Tryd.underlying26 Tryd.infoPt ?_)
        | (with_reducible refine wpList_load_pt rfl 26 (.tmp 2) rfl w.heap.size rfl (limsL [p.1, p.2]) 8 hP rfl Tryd.underlying26 Tryd.infoPt ?_)
        | (go_at_call 12
           with_reducible refine (AK.out _ (LK.out _ FB.below)).mono ?_
           rintro e w5 ⟨rfl, hb5⟩
           have F5 := Bs.stay _ _ FB hb5
           have hS5 := F5.getN (g := g7) (l := limsL [s0.1, s0.2]) (by repeat (first | exact List.mem_cons_self .. | refine List.mem_cons_of_mem _ ?_)))
        | (with_reducible refine wpList_store_n rfl 26 (.tmp 7) (.tmp 21) rfl g7 (limsL [s1.1, s1.2]) 8 rfl rfl rfl (limsL [s0.1, s0.2]) hS5 Tryd.infoPt rfl w.heap.size w F5.below (by omega) ?_
           intro w6 H6 o6 s6 b6
           have F6 := F5.turn (by simp; omega) H6 o6 (Nat.le_of_eq s6.symm) b6
           clear s6)
        | fail)
      go_roundw
      case rel => exact ⟨j + 1, by omega, by go_num, by rw [HS1.out]; exact F6⟩
      case measure => simp [intOf]; omega
    · obtain rfl : j = kk := by omega
      rw [SE.out] at FB
      clear AD SE KZ
      go_upto_region 8 with (fail)
      refine wp_region_lex 28 (fun _ => false) (fun _ _ _ => True) (Bs w (g7 + 1) [(g7, 26, ((limsL [s.1, s.2]).map nv).toArray), (w.heap.size, 26, ((limsL [p.1, p.2]).map nv).toArray)]) (by kernel_rfl) (by kernel_rfl) FB.drew Bs.stay (fun _ _ _ _ _ _ => trivial) lex_none ?_
      simp only [List.take_succ_cons, List.take_zero, List.drop_succ_cons, List.drop_zero]
      refine lexW_value (v := ?_) (by rfl) (by rfl) (fun W hW => ?_) ?_
      rotate_left
      · skip; go_simp <;> with_reducible rfl
      simp only [Act.put, List.setIfInBounds_toArray, List.set_cons_zero, List.set_cons_succ]
      refine lexW_value (v := ?_) (by rfl) (by rfl) (fun W hW => ?_) ?_
      rotate_left
      · skip; go_simp <;> with_reducible rfl
      simp only [Act.put, List.setIfInBounds_toArray, List.set_cons_zero, List.set_cons_succ]
      refine lexW_value (v := ?_) (by rfl) (by rfl) (fun W hW => ?_) ?_
      rotate_left
      · skip; go_simp <;> with_reducible rfl
      simp only [Act.put, List.setIfInBounds_toArray, List.set_cons_zero, List.set_cons_succ]
      refine lexW_value (v := ?_) (by rfl) (by rfl) (fun W hW => ?_) ?_
      rotate_left
      · skip; go_simp <;> with_reducible rfl
      simp only [Act.put, List.setIfInBounds_toArray, List.set_cons_zero, List.set_cons_succ]
      refine lexW_value (v := ?_) (by rfl) (by rfl) (fun W hW => ?_) ?_
      rotate_left
      · skip; go_simp <;> with_reducible rfl
      simp only [Act.put, List.setIfInBounds_toArray, List.set_cons_zero, List.set_cons_succ]
      refine lexW_value (v := ?_) (by rfl) (by rfl) (fun W hW => ?_) ?_
      rotate_left
      · have l1 := run_ldP (hW.getN (g := w.heap.size) (l := limsL [p.1, p.2]) (by repeat (first | exact List.mem_cons_self .. | refine List.mem_cons_of_mem _ ?_))); go_simp <;> with_reducible rfl
      simp only [Act.put, List.setIfInBounds_toArray, List.set_cons_zero, List.set_cons_succ]
      refine' lexW_call (by rfl) (by rfl) (fun W hW => ?_) (fun W hW => ?_) ?_
      rotate_left 3
      · go_simp <;> first | with_reducible rfl | exact ⟨rfl, rfl⟩
      · with_reducible exact K1.out W (LK.out _ hW.below)
      simp only [Act.put, List.setIfInBounds_toArray, List.set_cons_zero, List.set_cons_succ]
      refine lexW_value (v := ?_) (by rfl) (by rfl) (fun W hW => ?_) ?_
      rotate_left
      · have l1 := run_ldP (hW.getN (g := g7) (l := limsL [s.1, s.2]) (by repeat (first | exact List.mem_cons_self .. | refine List.mem_cons_of_mem _ ?_))); go_simp <;> with_reducible rfl
      simp only [Act.put, List.setIfInBounds_toArray, List.set_cons_zero, List.set_cons_succ]
      refine lexW_value (v := ?_) (by rfl) (by rfl) (fun W hW => ?_) ?_
      rotate_left
      · skip; go_simp <;> with_reducible rfl
      simp only [Act.put, List.setIfInBounds_toArray, List.set_cons_zero, List.set_cons_succ]
      refine lexW_value (v := ?_) (by rfl) (by rfl) (fun W hW => ?_) ?_
      rotate_left
      · skip; go_simp <;> with_reducible rfl
      simp only [Act.put, List.setIfInBounds_toArray, List.set_cons_zero, List.set_cons_succ]
      refine lexW_value (v := ?_) (by rfl) (by rfl) (fun W hW => ?_) ?_
      rotate_left
      · skip; go_simp <;> with_reducible rfl
      simp only [Act.put, List.setIfInBounds_toArray, List.set_cons_zero, List.set_cons_succ]
      refine lexW_value (v := ?_) (by rfl) (by rfl) (fun W hW => ?_) ?_
      rotate_left
      · have l1 := run_ldP (hW.getN (g := w.heap.size) (l := limsL [p.1, p.2]) (by repeat (first | exact List.mem_cons_self .. | refine List.mem_cons_of_mem _ ?_))); go_simp <;> with_reducible rfl
      simp only [Act.put, List.setIfInBounds_toArray, List.set_cons_zero, List.set_cons_succ]
      refine' lexW_call (by rfl) (by rfl) (fun W hW => ?_) (fun W hW => ?_) ?_
      rotate_left 3
      · go_simp <;> first | with_reducible rfl | exact ⟨rfl, rfl⟩
      · with_reducible exact K2.out W (LK.out _ hW.below)
      simp only [Act.put, List.setIfInBounds_toArray, List.set_cons_zero, List.set_cons_succ]
      refine lexW_value (v := ?_) (by rfl) (by rfl) (fun W hW => ?_) ?_
      rotate_left
      · skip; go_simp <;> with_reducible rfl
      simp only [Act.put, List.setIfInBounds_toArray, List.set_cons_zero, List.set_cons_succ]
      refine lexW_value (v := ?_) (by rfl) (by rfl) (fun W hW => ?_) ?_
      rotate_left
      · have l1 := run_ldP (hW.getN (g := w.heap.size) (l := limsL [p.1, p.2]) (by repeat (first | exact List.mem_cons_self .. | refine List.mem_cons_of_mem _ ?_))); go_simp <;> with_reducible rfl
      simp only [Act.put, List.setIfInBounds_toArray, List.set_cons_zero, List.set_cons_succ]
      refine' lexW_call (by rfl) (by rfl) (fun W hW => ?_) (fun W hW => ?_) ?_
      rotate_left 3
      · go_simp <;> first | with_reducible rfl | exact ⟨rfl, rfl⟩
      · with_reducible exact K3.out W (LK.out _ hW.below)
      simp only [Act.put, List.setIfInBounds_toArray, List.set_cons_zero, List.set_cons_succ]
      refine lexW_value (v := ?_) (by rfl) (by rfl) (fun W hW => ?_) ?_
      rotate_left
      · skip; go_simp <;> with_reducible rfl
      simp only [Act.put, List.setIfInBounds_toArray, List.set_cons_zero, List.set_cons_succ]
      refine lexW_value (v := ?_) (by rfl) (by rfl) (fun W hW => ?_) ?_
      rotate_left
      · skip; go_simp <;> with_reducible rfl
      simp only [Act.put, List.setIfInBounds_toArray, List.set_cons_zero, List.set_cons_succ]
      refine lexW_value (v := ?_) (by rfl) (by rfl) (fun W hW => ?_) ?_
      rotate_left
      · skip; go_simp <;> with_reducible rfl
      simp only [Act.put, List.setIfInBounds_toArray, List.set_cons_zero, List.set_cons_succ]
      refine lexW_value (v := ?_) (by rfl) (by rfl) (fun W hW => ?_) ?_
      rotate_left
      · have l1 := run_ldP (hW.getN (g := w.heap.size) (l := limsL [p.1, p.2]) (by repeat (first | exact List.mem_cons_self .. | refine List.mem_cons_of_mem _ ?_))); go_simp <;> with_reducible rfl
      simp only [Act.put, List.setIfInBounds_toArray, List.set_cons_zero, List.set_cons_succ]
      refine' lexW_call (by rfl) (by rfl) (fun W hW => ?_) (fun W hW => ?_) ?_
      rotate_left 3
      · go_simp <;> first | with_reducible rfl | exact ⟨rfl, rfl⟩
      · with_reducible exact K4.out W (LK.out _ hW.below)
      simp only [Act.put, List.setIfInBounds_toArray, List.set_cons_zero, List.set_cons_succ]
      refine lexW_value (v := ?_) (by rfl) (by rfl) (fun W hW => ?_) ?_
      rotate_left
      · skip; go_simp <;> with_reducible rfl
      simp only [Act.put, List.setIfInBounds_toArray, List.set_cons_zero, List.set_cons_succ]
      refine lexW_value (v := ?_) (by rfl) (by rfl) (fun W hW => ?_) ?_
      rotate_left
      · have l1 := run_ldP (hW.getN (g := w.heap.size) (l := limsL [p.1, p.2]) (by repeat (first | exact List.mem_cons_self .. | refine List.mem_cons_of_mem _ ?_))); go_simp <;> with_reducible rfl
      simp only [Act.put, List.setIfInBounds_toArray, List.set_cons_zero, List.set_cons_succ]
      refine' lexW_call (by rfl) (by rfl) (fun W hW => ?_) (fun W hW => ?_) ?_
      rotate_left 3
      · go_simp <;> first | with_reducible rfl | exact ⟨rfl, rfl⟩
      · with_reducible exact K4.out W (LK.out _ hW.below)
      simp only [Act.put, List.setIfInBounds_toArray, List.set_cons_zero, List.set_cons_succ]
      refine' lexW_call (by rfl) (by rfl) (fun W hW => ?_) (fun W hW => ?_) ?_
      rotate_left 3
      · go_simp <;> first | with_reducible rfl | exact ⟨rfl, rfl⟩
      · with_reducible exact K5.out W (LK.out _ hW.below)
      simp only [Act.put, List.setIfInBounds_toArray, List.set_cons_zero, List.set_cons_succ]
      refine lexW_value (v := ?_) (by rfl) (by rfl) (fun W hW => ?_) ?_
      rotate_left
      · skip; go_simp <;> with_reducible rfl
      simp only [Act.put, List.setIfInBounds_toArray, List.set_cons_zero, List.set_cons_succ]
      refine' lexW_call (by rfl) (by rfl) (fun W hW => ?_) (fun W hW => ?_) ?_
      rotate_left 3
      · go_simp <;> first | with_reducible rfl | exact ⟨rfl, rfl⟩
      · with_reducible exact K6.out W (LK.out _ hW.below)
      simp only [Act.put, List.setIfInBounds_toArray, List.set_cons_zero, List.set_cons_succ]
      refine lexW_value (v := ?_) (by rfl) (by rfl) (fun W hW => ?_) ?_
      rotate_left
      · skip; go_simp <;> with_reducible rfl
      simp only [Act.put, List.setIfInBounds_toArray, List.set_cons_zero, List.set_cons_succ]
      refine lexW_nil (fun b7 W7 F7 E7 => ?_)
      obtain rfl := lexEnd_none E7
      go_wp2
      go_ret
      exact ⟨rfl, F7.below⟩
end
end Crv
end Go.Proofs.YthaheekjmofgnaaDoor
