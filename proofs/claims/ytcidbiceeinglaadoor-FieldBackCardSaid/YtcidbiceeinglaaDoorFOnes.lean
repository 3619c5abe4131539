/-
  The program's numbers modulo P: powers whose bits are all 1.
-/
import Derived.Test.YtcidbiceeinglaaDoorFMade
namespace Go.Proofs.YtcidbiceeinglaaDoor
open Go.RowKit

/-- A number to the power of 2^n - 1, as the program leaves it. -/
def onesv (m n : Nat) : Nat := if n = 1 then m else (fpow (toF m) (2 ^ n - 1)).val
theorem toF_onesv (m n : Nat) : toF (onesv m n) = fpow (toF m) (2 ^ n - 1) := by
  unfold onesv
  by_cases h : n = 1
  · rw [if_pos h, h, Nat.pow_one, show 2 - 1 = 1 from rfl, fpow_one]
  · rw [if_neg h, toF_of]
theorem onesv_lt {m : Nat} (hm : m < big) (n : Nat) : onesv m n < big := by
  unfold onesv
  split
  · exact hm
  · exact F.lt_big _
/-- Twice as many, and one more. -/
theorem ones_double (m k : Nat) : toF (sqd (onesv m k) k) * toF (onesv m k) = fpow (toF m) (2 ^ (2 * k) - 1) := by
  rw [toF_sqd, toF_onesv, ← fpow_mul, ← fpow_add]
  congr 1
  have h1 : 1 ≤ 2 ^ k := Nat.one_le_two_pow
  rw [Nat.two_mul, Nat.pow_add]
  generalize 2 ^ k = x at *
  obtain ⟨y, rfl⟩ : ∃ y, x = y + 1 := ⟨x - 1, by omega⟩
  rw [Nat.add_sub_cancel, Nat.add_mul, Nat.mul_add]
  omega
theorem ones_more (a : F) (k : Nat) : fpow (fpow a (2 ^ (2 * k) - 1)) (2 ^ 1) * a = fpow a (2 ^ (2 * k + 1) - 1) := by
  rw [← fpow_mul, ← fpow_succ]
  congr 1
  have h1 : 1 ≤ 2 ^ (2 * k) := Nat.one_le_two_pow
  rw [Nat.pow_succ]
  omega

section
attribute [local go_sem ↓] load_fe

set_option maxRecDepth 100000 in
set_option maxHeartbeats 1000000 in
theorem ones_any (m : Nat) (hm : m < big) : ∀ (n : Nat) (w : World), 1 ≤ n → n < 1000 →
    Calls Tryd.prog 44 #[fev m, .int .i64 (n : Int)] w (GaveF w (onesv m n)) := by
  intro n
  induction n using Nat.strongRecOn with
  | _ n ih =>
  intro w h1 h2
  obtain ⟨hA, hC, hb, hsz⟩ := fe_start2 w m 0 _ #[.int .u64 0, .int .u64 0, .int .u64 0, .int .u64 0] rfl (by kernel_rfl)
  have F0 : Fe1 w m _ := ⟨hA, hC, hb⟩
  clear hA hC hb hsz
  rw [fev_eq]
  by_cases e : n = 1
  · have hv : Hid (onesv m n = m) := Lib.hid (by unfold onesv; rw [if_pos e])
    have e1 : ((n : Int) == 1) = true := by rw [e]; rfl
    rw [hv.out]
    clear ih h1 h2 e
    go_enter Tryd.func44, Tryd.ntmps44
    go_upto_region 1 with (fail)
    generalize (w.alloc (.cells ((lims m).map nv).toArray 24)).alloc (.cells #[.int .u64 0, .int .u64 0, .int .u64 0, .int .u64 0] 24) = wv at *
    have hA := F0.a
    have hC := F0.c
    go_wp2_with (first
      | (with_reducible refine wpList_load_n rfl 24 (.tmp 2) rfl w.heap.size rfl (lims m) 4 hA rfl Tryd.underlying24 Tryd.infoFe ?_)
      | (with_reducible refine wpList_store_n rfl 24 (.tmp 4) (.tmp 9) rfl (w.heap.size + 1) (lims m) 4 rfl rfl rfl (lims 0) hC Tryd.infoFe rfl w.heap.size w F0.d (by omega) ?_; intro w7 Hg _ _ hb7)
      | fail)
    exact bodyPost_ret (results_cell_row rfl _ _ _ _ _ _ _ rfl Hg Tryd.underlying24 rfl (by rw [Tryd.infoFe]; rfl)) rfl ⟨rfl, hb7⟩
  · obtain ⟨k, hk⟩ : ∃ k, k = n / 2 := ⟨_, rfl⟩
    have e1 : ((n : Int) == 1) = false := by rw [beq_eq_false_iff_ne]; omega
    have ew : wrap64 (((n / 2 : Nat) : Int)) = ((n / 2 : Nat) : Int) := by unfold wrap64; omega
    rw [← hk] at ew
    have ew2 : IntKind.i64.wrap (k : Int) = (k : Int) := by rw [IntKind.wrap_i64]; omega
    have ek : (n : Int).tdiv 2 = (k : Int) := by rw [Int.tdiv_eq_ediv_of_nonneg (by omega)]; omega
    obtain ⟨h, hh⟩ : ∃ h, h = onesv m k := ⟨_, rfl⟩
    obtain ⟨s, hs⟩ : ∃ s, s = sqd h k := ⟨_, rfl⟩
    obtain ⟨x, hx⟩ : ∃ x, x = fpow (toF m) (2 ^ (2 * k) - 1) := ⟨_, rfl⟩
    obtain ⟨s1, hs1⟩ : ∃ s, s = sqd x.val 1 := ⟨_, rfl⟩
    obtain ⟨y, hy⟩ : ∃ y, y = fpow (toF m) (2 ^ (2 * k + 1) - 1) := ⟨_, rfl⟩
    have hhb : h < big := by rw [hh]; exact onesv_lt hm k
    have CO : Hid (∀ W, Calls Tryd.prog 44 #[.agg ((lims m).map nv).toArray, .int .i64 (k : Int)] W fun e w' => e = .returned (.agg ((lims h).map nv).toArray) ∧ Below W.heap.size W w') := Lib.hid fun W => by rw [hh]; exact ih k (by omega) W (by omega) (by omega)
    have CS : Hid (∀ W, Calls Tryd.prog 43 #[.agg ((lims h).map nv).toArray, .int .i64 (k : Int)] W fun e w' => e = .returned (.agg ((lims s).map nv).toArray) ∧ Below W.heap.size W w') := Lib.hid fun W => by rw [hs]; exact squared_any h k W hhb (by omega)
    have CM : Hid (∀ W, Calls Tryd.prog 14 #[.agg ((lims s).map nv).toArray, .agg ((lims h).map nv).toArray] W fun e w' => e = .returned (.agg ((lims x.val).map nv).toArray) ∧ Below W.heap.size W w') := Lib.hid fun W => by
      have := Mul_any s h W (by rw [hs]; exact sqd_lt hhb k) hhb
      rw [hs, hh, ones_double, ← hh, ← hs, ← hx] at this
      exact this
    have CS1 : Hid (∀ W, Calls Tryd.prog 43 #[.agg ((lims x.val).map nv).toArray, .int .i64 1] W fun e w' => e = .returned (.agg ((lims s1).map nv).toArray) ∧ Below W.heap.size W w') := Lib.hid fun W => by rw [hs1]; exact squared_any x.val 1 W (F.lt_big x) (by omega)
    have CM1 : Hid (∀ W, Calls Tryd.prog 14 #[.agg ((lims s1).map nv).toArray, .agg ((lims m).map nv).toArray] W fun e w' => e = .returned (.agg ((lims y.val).map nv).toArray) ∧ Below W.heap.size W w') := Lib.hid fun W => by
      have := Mul_any s1 m W (by rw [hs1]; exact sqd_lt (F.lt_big x) 1) hm
      rw [hs1, toF_sqd, toF_of, hx, ones_more, ← hx, ← hs1, ← hy] at this
      exact this
    have hv : Hid (onesv m n = if n % 2 = 1 then y.val else x.val) := Lib.hid (by
      unfold onesv
      rw [if_neg e, hy, hx]
      split
      · rw [show 2 * k + 1 = n by omega]
      · rw [show 2 * k = n by omega])
    have R1 : Hid (n % 2 = 1 → onesv m n = y.val) := Lib.hid fun h => by rw [hv.out, if_pos h]
    have R0 : Hid (¬ n % 2 = 1 → onesv m n = x.val) := Lib.hid fun h => by rw [hv.out, if_neg h]
    clear hv
    generalize onesv m n = r at *
    have emod : (n : Int).tmod 2 = ((n % 2 : Nat) : Int) := by rw [Int.tmod_eq_emod_of_nonneg (by omega)]; rfl
    clear ih h1 h2 e hk hh hs hx hs1 hy hhb
    go_enter Tryd.func44, Tryd.ntmps44
    go_upto_region 1 with (fail)
    generalize (w.alloc (.cells ((lims m).map nv).toArray 24)).alloc (.cells #[.int .u64 0, .int .u64 0, .int .u64 0, .int .u64 0] 24) = wv at *
    have hA := F0.a
    go_upto_region 4 with (first
      | (with_reducible refine wpList_load_n rfl 24 (.tmp 2) rfl w.heap.size rfl (lims m) 4 hA rfl Tryd.underlying24 Tryd.infoFe ?_)
      | (go_at_call 44
         with_reducible refine (CO.out _).mono ?_
         rintro e w3 ⟨rfl, hb3⟩
         have F3 := Fe1.stay _ _ F0 hb3
         have F3a := Fe1.stay _ _ F3 ((Below.refl _ w3).alloc (Nat.le_refl _) (.cells #[.int .u64 0, .int .u64 0, .int .u64 0, .int .u64 0] 24))
         have z3 := holdsN_new w3 24 w3.heap.size #[.int .u64 0, .int .u64 0, .int .u64 0, .int .u64 0] (lims 0) rfl (by kernel_rfl))
      | (with_reducible refine wpList_store_n rfl 24 (.tmp 5) (.tmp 13) rfl w3.heap.size (lims h) 4 rfl rfl rfl (lims 0) (by with_unfolding_all exact z3) Tryd.infoFe rfl w.heap.size w (by with_unfolding_all exact F3a.d) F3.d.size ?_
         intro w4 H4 o4 s4 b4
         have F4 : Fe2 w m w3.heap.size h w4 := ⟨Fe1.oth (by with_unfolding_all exact F3a) o4 b4 (Fe1.size _ F3), H4⟩
         clear s4)
      | fail)
    clear hA F3a z3 o4 CO F0
    have hg3 := Fe1.size _ F3
    generalize w3.heap.size = g at *
    try dsimp only [Act.put]
    go_cut [6] (fun vp wx => InBlock (max (w.heap.size + 2) (g + 1)) x.val (Fe2 w m g h) vp wx)
    case first =>
      refine wp_region_lex 7 (fun k => k == 6) (MadeFe (max (w.heap.size + 2) (g + 1))) (Fe2 w m g h) (by kernel_rfl) (by kernel_rfl) (Fe2.stay _ _ F4 (Below.refl _ w4).drew) Fe2.stay MadeFe.stay (made_fe Fe2.size rfl) ?_
      simp only [List.take_succ_cons, List.take_zero, List.drop_succ_cons, List.drop_zero]
      refine lexW_value (v := ?_) (by rfl) (by rfl) (fun W hW => ?_) ?_
      rotate_left
      · have l1 := run_loadFe hW.h; go_simp <;> with_reducible rfl
      simp only [Act.put, List.setIfInBounds_toArray, List.set_cons_zero, List.set_cons_succ]
      refine lexW_value (v := ?_) (by rfl) (by rfl) (fun W hW => ?_) ?_
      rotate_left
      · have l1 := run_loadFe hW.h; go_simp <;> with_reducible rfl
      simp only [Act.put, List.setIfInBounds_toArray, List.set_cons_zero, List.set_cons_succ]
      refine lexW_value (v := ?_) (by rfl) (by rfl) (fun W hW => ?_) ?_
      rotate_left
      · have l1 := run_loadFe hW.h; go_simp <;> with_reducible rfl
      simp only [Act.put, List.setIfInBounds_toArray, List.set_cons_zero, List.set_cons_succ]
      refine' lexW_call (by rfl) (by rfl) (fun W hW => ?_) (fun W hW => ?_) ?_
      rotate_left 3
      · go_simp <;> first | with_reducible rfl | exact ⟨rfl, rfl⟩
      · with_reducible exact CS.out W
      simp only [Act.put, List.setIfInBounds_toArray, List.set_cons_zero, List.set_cons_succ]
      refine lexW_value (v := ?_) (by rfl) (by rfl) (fun W hW => ?_) ?_
      rotate_left
      · have l1 := run_loadFe hW.h; go_simp <;> with_reducible rfl
      simp only [Act.put, List.setIfInBounds_toArray, List.set_cons_zero, List.set_cons_succ]
      refine' lexW_call (by rfl) (by rfl) (fun W hW => ?_) (fun W hW => ?_) ?_
      rotate_left 3
      · go_simp <;> first | with_reducible rfl | exact ⟨rfl, rfl⟩
      · with_reducible exact CM.out W
      simp only [Act.put, List.setIfInBounds_toArray, List.set_cons_zero, List.set_cons_succ]
      refine lexW_free (by rfl) ?_
      refine lexW_nil (fun b W hW hE => ?_)
      obtain ⟨_, ⟨g6, rfl, hg, hZ⟩, rfl⟩ := lexEnd_one (j := 6) (d := 6) (by kernel_rfl) hE
      simp only [Act.put, List.setIfInBounds_toArray, List.set_cons_zero, List.set_cons_succ]
      go_wp2_with (with_reducible refine wpList_store_n rfl 24 (.tmp 6) (.tmp 19) rfl g6 (lims x.val) 4 rfl rfl rfl (lims 0) hZ Tryd.infoFe rfl w.heap.size w hW.f.d (by omega) ?_; intro w7 Hg o7 _ hb7)
      go_meet
      exact ⟨g6, rfl, hg, Hg, hW.oth o7 hb7 hg⟩
    case rest =>
      obtain ⟨g6, rfl, hg, HQ, F6⟩ := hcut
      have F7 : Fe2 w m g6 x.val wc := ⟨F6.f, HQ⟩
      clear F6 HQ CS CM
      by_cases ho : n % 2 = 1
      · have R := Lib.hid (R1.out ho)
        clear R1 R0
        have e2 : (((n % 2 : Nat) : Int) == 1) = true := by rw [ho]; rfl
        generalize n % 2 = par at *
        go_upto_region 6 with (fail)
        refine wp_region_lex 4 (fun _ => false) (MadeFe 0) (Fe2 w m g6 x.val) (by kernel_rfl) (by kernel_rfl) (Fe2.stay _ _ F7 (Below.refl _ wc).drew) Fe2.stay MadeFe.stay lex_none ?_
        simp only [List.take_succ_cons, List.take_zero, List.drop_succ_cons, List.drop_zero]
        refine lexW_value (v := ?_) (by rfl) (by rfl) (fun W hW => ?_) ?_
        rotate_left
        · have l1 := run_loadFe hW.h; go_simp <;> with_reducible rfl
        simp only [Act.put, List.setIfInBounds_toArray, List.set_cons_zero, List.set_cons_succ]
        refine' lexW_call (by rfl) (by rfl) (fun W hW => ?_) (fun W hW => ?_) ?_
        rotate_left 3
        · go_simp <;> first | with_reducible rfl | exact ⟨rfl, rfl⟩
        · with_reducible exact CS1.out W
        simp only [Act.put, List.setIfInBounds_toArray, List.set_cons_zero, List.set_cons_succ]
        refine lexW_value (v := ?_) (by rfl) (by rfl) (fun W hW => ?_) ?_
        rotate_left
        · have l1 := run_loadFe hW.f.a; go_simp <;> with_reducible rfl
        simp only [Act.put, List.setIfInBounds_toArray, List.set_cons_zero, List.set_cons_succ]
        refine' lexW_call (by rfl) (by rfl) (fun W hW => ?_) (fun W hW => ?_) ?_
        rotate_left 3
        · go_simp <;> first | with_reducible rfl | exact ⟨rfl, rfl⟩
        · with_reducible exact CM1.out W
        simp only [Act.put, List.setIfInBounds_toArray, List.set_cons_zero, List.set_cons_succ]
        refine lexW_nil (fun b W hW hE => ?_)
        obtain rfl := lexEnd_none hE
        have hC := hW.f.c
        go_wp2_with (first
          | (with_reducible refine wpList_store_n rfl 24 (.tmp 6) (.tmp 26) rfl g6 (lims y.val) 4 rfl rfl rfl (lims x.val) hW.h Tryd.infoFe rfl w.heap.size w hW.f.d (by omega) ?_
             intro w7 H7 o7 s7 b7
             have hC7 := hC.oth o7 (by omega)
             clear s7)
          | (with_reducible refine wpList_load_n rfl 24 (.tmp 6) rfl g6 rfl (lims y.val) 4 H7 rfl Tryd.underlying24 Tryd.infoFe ?_)
          | (with_reducible refine wpList_store_n rfl 24 (.tmp 4) (.tmp 27) rfl (w.heap.size + 1) (lims y.val) 4 rfl rfl rfl (lims 0) hC7 Tryd.infoFe rfl w.heap.size w b7 (by omega) ?_; intro w8 Hg _ _ hb8)
          | fail)
        exact bodyPost_ret (results_cell_row rfl _ _ _ _ _ _ _ rfl Hg Tryd.underlying24 rfl (by rw [Tryd.infoFe]; rfl)) rfl ⟨by rw [R.out]; rfl, hb8⟩
      · have R := Lib.hid (R0.out ho)
        clear R1 R0
        have e2 : (((n % 2 : Nat) : Int) == 1) = false := by rw [beq_eq_false_iff_ne]; omega
        generalize n % 2 = par at *
        have hC := F7.f.c
        have hH := F7.h
        go_wp2_with (first
          | (with_reducible refine wpList_load_n rfl 24 (.tmp 6) rfl g6 rfl (lims x.val) 4 hH rfl Tryd.underlying24 Tryd.infoFe ?_)
          | (with_reducible refine wpList_store_n rfl 24 (.tmp 4) (.tmp 27) rfl (w.heap.size + 1) (lims x.val) 4 rfl rfl rfl (lims 0) hC Tryd.infoFe rfl w.heap.size w F7.f.d (by omega) ?_; intro w8 Hg _ _ hb8)
          | fail)
        exact bodyPost_ret (results_cell_row rfl _ _ _ _ _ _ _ rfl Hg Tryd.underlying24 rfl (by rw [Tryd.infoFe]; rfl)) rfl ⟨by rw [R.out]; rfl, hb8⟩
end
end Go.Proofs.YtcidbiceeinglaaDoor
