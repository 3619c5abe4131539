/-
  The program's numbers modulo P: powers whose bits are all 1.
  The program's numbers modulo P: what a number is multiplied by to be 1.
  The document's numbers modulo P: whether two are one; whether one is odd.
  Arrays of thirty-two bytes, in the program's table of types.
-/
import Derived.Test.YtlfkohanfeejfaaDoorMag
import Derived.Test.YtlfkohanfeejfaaDoorMai
import Derived.Test.YtlfkohanfeejfaaDoorMaq
namespace Go.Proofs.YtlfkohanfeejfaaDoor
open Go.RowKit

/-- A number to the power of 2^n - 1, as the program leaves it. -/
def onesv (m n : Nat) : Nat := if n = 1 then m else (fpow (toF m) (2 ^ n - 1)).val
theorem toF_onesv (m n : Nat) : toF (onesv m n) = fpow (toF m) (2 ^ n - 1) := by
  unfold onesv
  by_cases h : n = 1
  · rw [if_pos h, h, Nat.pow_one, show 2 - 1 = 1 from rfl, fpow_one]
  · rw [if_neg h, toF_of]
theorem onesv_lt {m : Nat} (hm : m < big) (n : Nat) : onesv m n < big := by
  unfold onesv
  split
  · exact hm
  · exact F.lt_big _
/-- Twice as many, and one more. -/
theorem ones_double (m k : Nat) : toF (sqd (onesv m k) k) * toF (onesv m k) = fpow (toF m) (2 ^ (2 * k) - 1) := by
  rw [toF_sqd, toF_onesv, ← fpow_mul, ← fpow_add]
  congr 1
  have h1 : 1 ≤ 2 ^ k := Nat.one_le_two_pow
  rw [Nat.two_mul, Nat.pow_add]
  generalize 2 ^ k = x at *
  obtain ⟨y, rfl⟩ : ∃ y, x = y + 1 := ⟨x - 1, by omega⟩
  rw [Nat.add_sub_cancel, Nat.add_mul, Nat.mul_add]
  omega
theorem ones_more (a : F) (k : Nat) : fpow (fpow a (2 ^ (2 * k) - 1)) (2 ^ 1) * a = fpow a (2 ^ (2 * k + 1) - 1) := by
  rw [← fpow_mul, ← fpow_succ]
  congr 1
  have h1 : 1 ≤ 2 ^ (2 * k) := Nat.one_le_two_pow
  rw [Nat.pow_succ]
  omega

section
attribute [local go_sem ↓] load_fe

set_option maxRecDepth 100000 in
set_option maxHeartbeats 1000000 in
theorem ones_any (m : Nat) (hm : m < big) : ∀ (n : Nat) (w : World), 1 ≤ n → n < 1000 →
    Calls Tryd.prog 88 #[fev m, .int .i64 (n : Int)] w (GaveF w (onesv m n)) := by
  intro n
  induction n using Nat.strongRecOn with
  | _ n ih =>
  intro w h1 h2
  obtain ⟨hA, hC, hb, hsz⟩ := fe_start2 w m 0 _ #[.int .u64 0, .int .u64 0, .int .u64 0, .int .u64 0] rfl (by kernel_rfl)
  have F0 : Fe1 w m _ := ⟨hA, hC, hb⟩
  clear hA hC hb hsz
  rw [fev_eq]
  by_cases e : n = 1
  · have hv : Hid (onesv m n = m) := Lib.hid (by unfold onesv; rw [if_pos e])
    have e1 : ((n : Int) == 1) = true := by rw [e]; rfl
    rw [hv.out]
    clear ih h1 h2 e
    go_enter Tryd.func88, Tryd.ntmps88
    go_upto_region 1 with (fail)
    generalize (w.alloc (.cells ((lims m).map nv).toArray 24)).alloc (.cells #[.int .u64 0, .int .u64 0, .int .u64 0, .int .u64 0] 24) = wv at *
    have hA := F0.a
    have hC := F0.c
    go_wp2_with (first
      | (with_reducible refine wpList_load_n rfl 24 (.tmp 2) rfl w.heap.size rfl (lims m) 4 hA rfl Tryd.underlying24 Tryd.infoFe ?_)
      | (with_reducible refine wpList_store_n rfl 24 (.tmp 4) (.tmp 9) rfl (w.heap.size + 1) (lims m) 4 rfl rfl rfl (lims 0) hC Tryd.infoFe rfl w.heap.size w F0.d (by omega) ?_; intro w7 Hg _ _ hb7)
      | fail)
    exact bodyPost_ret (results_cell_row rfl _ _ _ _ _ _ _ rfl Hg Tryd.underlying24 rfl (by rw [Tryd.infoFe]; rfl)) rfl ⟨rfl, hb7⟩
  · obtain ⟨k, hk⟩ : ∃ k, k = n / 2 := ⟨_, rfl⟩
    have e1 : ((n : Int) == 1) = false := by rw [beq_eq_false_iff_ne]; omega
    have ew : wrap64 (((n / 2 : Nat) : Int)) = ((n / 2 : Nat) : Int) := by unfold wrap64; omega
    rw [← hk] at ew
    have ew2 : IntKind.i64.wrap (k : Int) = (k : Int) := by rw [IntKind.wrap_i64]; omega
    have ek : (n : Int).tdiv 2 = (k : Int) := by rw [Int.tdiv_eq_ediv_of_nonneg (by omega)]; omega
    obtain ⟨h, hh⟩ : ∃ h, h = onesv m k := ⟨_, rfl⟩
    obtain ⟨s, hs⟩ : ∃ s, s = sqd h k := ⟨_, rfl⟩
    obtain ⟨x, hx⟩ : ∃ x, x = fpow (toF m) (2 ^ (2 * k) - 1) := ⟨_, rfl⟩
    obtain ⟨s1, hs1⟩ : ∃ s, s = sqd x.val 1 := ⟨_, rfl⟩
    obtain ⟨y, hy⟩ : ∃ y, y = fpow (toF m) (2 ^ (2 * k + 1) - 1) := ⟨_, rfl⟩
    have hhb : h < big := by rw [hh]; exact onesv_lt hm k
    have CO : Hid (∀ W, Calls Tryd.prog 88 #[.agg ((lims m).map nv).toArray, .int .i64 (k : Int)] W fun e w' => e = .returned (.agg ((lims h).map nv).toArray) ∧ Below W.heap.size W w') := Lib.hid fun W => by rw [hh]; exact ih k (by omega) W (by omega) (by omega)
    have CS : Hid (∀ W, Calls Tryd.prog 87 #[.agg ((lims h).map nv).toArray, .int .i64 (k : Int)] W fun e w' => e = .returned (.agg ((lims s).map nv).toArray) ∧ Below W.heap.size W w') := Lib.hid fun W => by rw [hs]; exact squared_any h k W hhb (by omega)
    have CM : Hid (∀ W, Calls Tryd.prog 43 #[.agg ((lims s).map nv).toArray, .agg ((lims h).map nv).toArray] W fun e w' => e = .returned (.agg ((lims x.val).map nv).toArray) ∧ Below W.heap.size W w') := Lib.hid fun W => by
      have := Mul_any s h W (by rw [hs]; exact sqd_lt hhb k) hhb
      rw [hs, hh, ones_double, ← hh, ← hs, ← hx] at this
      exact this
    have CS1 : Hid (∀ W, Calls Tryd.prog 87 #[.agg ((lims x.val).map nv).toArray, .int .i64 1] W fun e w' => e = .returned (.agg ((lims s1).map nv).toArray) ∧ Below W.heap.size W w') := Lib.hid fun W => by rw [hs1]; exact squared_any x.val 1 W (F.lt_big x) (by omega)
    have CM1 : Hid (∀ W, Calls Tryd.prog 43 #[.agg ((lims s1).map nv).toArray, .agg ((lims m).map nv).toArray] W fun e w' => e = .returned (.agg ((lims y.val).map nv).toArray) ∧ Below W.heap.size W w') := Lib.hid fun W => by
      have := Mul_any s1 m W (by rw [hs1]; exact sqd_lt (F.lt_big x) 1) hm
      rw [hs1, toF_sqd, toF_of, hx, ones_more, ← hx, ← hs1, ← hy] at this
      exact this
    have hv : Hid (onesv m n = if n % 2 = 1 then y.val else x.val) := Lib.hid (by
      unfold onesv
      rw [if_neg e, hy, hx]
      split
      · rw [show 2 * k + 1 = n by omega]
      · rw [show 2 * k = n by omega])
    have R1 : Hid (n % 2 = 1 → onesv m n = y.val) := Lib.hid fun h => by rw [hv.out, if_pos h]
    have R0 : Hid (¬ n % 2 = 1 → onesv m n = x.val) := Lib.hid fun h => by rw [hv.out, if_neg h]
    clear hv
    generalize onesv m n = r at *
    have emod : (n : Int).tmod 2 = ((n % 2 : Nat) : Int) := by rw [Int.tmod_eq_emod_of_nonneg (by omega)]; rfl
    clear ih h1 h2 e hk hh hs hx hs1 hy hhb
    go_enter Tryd.func88, Tryd.ntmps88
    go_upto_region 1 with (fail)
    generalize (w.alloc (.cells ((lims m).map nv).toArray 24)).alloc (.cells #[.int .u64 0, .int .u64 0, .int .u64 0, .int .u64 0] 24) = wv at *
    have hA := F0.a
    go_upto_region 4 with (first
      | (with_reducible refine wpList_load_n rfl 24 (.tmp 2) rfl w.heap.size rfl (lims m) 4 hA rfl Tryd.underlying24 Tryd.infoFe ?_)
      | (go_at_call 88
         with_reducible refine (CO.out _).mono ?_
         rintro e w3 ⟨rfl, hb3⟩
         have F3 := Fe1.stay _ _ F0 hb3
         have F3a := Fe1.stay _ _ F3 ((Below.refl _ w3).alloc (Nat.le_refl _) (.cells #[.int .u64 0, .int .u64 0, .int .u64 0, .int .u64 0] 24))
         have z3 := holdsN_new w3 24 w3.heap.size #[.int .u64 0, .int .u64 0, .int .u64 0, .int .u64 0] (lims 0) rfl (by kernel_rfl))
      | (with_reducible refine wpList_store_n rfl 24 (.tmp 5) (.tmp 13) rfl w3.heap.size (lims h) 4 rfl rfl rfl (lims 0) (by with_unfolding_all exact z3) Tryd.infoFe rfl w.heap.size w (by with_unfolding_all exact F3a.d) F3.d.size ?_
         intro w4 H4 o4 s4 b4
         have F4 : Fe2 w m w3.heap.size h w4 := ⟨Fe1.oth (by with_unfolding_all exact F3a) o4 b4 (Fe1.size _ F3), H4⟩
         clear s4)
      | fail)
    clear hA F3a z3 o4 CO F0
    have hg3 := Fe1.size _ F3
    generalize w3.heap.size = g at *
    try dsimp only [Act.put]
    go_cut [6] (fun vp wx => InBlock (max (w.heap.size + 2) (g + 1)) x.val (Fe2 w m g h) vp wx)
    case first =>
      refine wp_region_lex 7 (fun k => k == 6) (MadeFe (max (w.heap.size + 2) (g + 1))) (Fe2 w m g h) (by kernel_rfl) (by kernel_rfl) (Fe2.stay _ _ F4 (Below.refl _ w4).drew) Fe2.stay MadeFe.stay (made_fe Fe2.size rfl) ?_
      simp only [List.take_succ_cons, List.take_zero, List.drop_succ_cons, List.drop_zero]
      refine lexW_value (v := ?_) (by rfl) (by rfl) (fun W hW => ?_) ?_
      rotate_left
      · have l1 := run_loadFe hW.h; go_simp <;> with_reducible rfl
      simp only [Act.put, List.setIfInBounds_toArray, List.set_cons_zero, List.set_cons_succ]
      refine lexW_value (v := ?_) (by rfl) (by rfl) (fun W hW => ?_) ?_
      rotate_left
      · have l1 := run_loadFe hW.h; go_simp <;> with_reducible rfl
      simp only [Act.put, List.setIfInBounds_toArray, List.set_cons_zero, List.set_cons_succ]
      refine lexW_value (v := ?_) (by rfl) (by rfl) (fun W hW => ?_) ?_
      rotate_left
      · have l1 := run_loadFe hW.h; go_simp <;> with_reducible rfl
      simp only [Act.put, List.setIfInBounds_toArray, List.set_cons_zero, List.set_cons_succ]
      refine' lexW_call (by rfl) (by rfl) (fun W hW => ?_) (fun W hW => ?_) ?_
      rotate_left 3
      · go_simp <;> first | with_reducible rfl | exact ⟨rfl, rfl⟩
      · with_reducible exact CS.out W
      simp only [Act.put, List.setIfInBounds_toArray, List.set_cons_zero, List.set_cons_succ]
      refine lexW_value (v := ?_) (by rfl) (by rfl) (fun W hW => ?_) ?_
      rotate_left
      · have l1 := run_loadFe hW.h; go_simp <;> with_reducible rfl
      simp only [Act.put, List.setIfInBounds_toArray, List.set_cons_zero, List.set_cons_succ]
      refine' lexW_call (by rfl) (by rfl) (fun W hW => ?_) (fun W hW => ?_) ?_
      rotate_left 3
      · go_simp <;> first | with_reducible rfl | exact ⟨rfl, rfl⟩
      · with_reducible exact CM.out W
      simp only [Act.put, List.setIfInBounds_toArray, List.set_cons_zero, List.set_cons_succ]
      refine lexW_free (by rfl) ?_
      refine lexW_nil (fun b W hW hE => ?_)
      obtain ⟨_, ⟨g6, rfl, hg, hZ⟩, rfl⟩ := lexEnd_one (j := 6) (d := 6) (by kernel_rfl) hE
      simp only [Act.put, List.setIfInBounds_toArray, List.set_cons_zero, List.set_cons_succ]
      go_wp2_with (with_reducible refine wpList_store_n rfl 24 (.tmp 6) (.tmp 19) rfl g6 (lims x.val) 4 rfl rfl rfl (lims 0) hZ Tryd.infoFe rfl w.heap.size w hW.f.d (by omega) ?_; intro w7 Hg o7 _ hb7)
      go_meet
      exact ⟨g6, rfl, hg, Hg, hW.oth o7 hb7 hg⟩
    case rest =>
      obtain ⟨g6, rfl, hg, HQ, F6⟩ := hcut
      have F7 : Fe2 w m g6 x.val wc := ⟨F6.f, HQ⟩
      clear F6 HQ CS CM
      by_cases ho : n % 2 = 1
      · have R := Lib.hid (R1.out ho)
        clear R1 R0
        have e2 : (((n % 2 : Nat) : Int) == 1) = true := by rw [ho]; rfl
        generalize n % 2 = par at *
        go_upto_region 6 with (fail)
        refine wp_region_lex 4 (fun _ => false) (MadeFe 0) (Fe2 w m g6 x.val) (by kernel_rfl) (by kernel_rfl) (Fe2.stay _ _ F7 (Below.refl _ wc).drew) Fe2.stay MadeFe.stay lex_none ?_
        simp only [List.take_succ_cons, List.take_zero, List.drop_succ_cons, List.drop_zero]
        refine lexW_value (v := ?_) (by rfl) (by rfl) (fun W hW => ?_) ?_
        rotate_left
        · have l1 := run_loadFe hW.h; go_simp <;> with_reducible rfl
        simp only [Act.put, List.setIfInBounds_toArray, List.set_cons_zero, List.set_cons_succ]
        refine' lexW_call (by rfl) (by rfl) (fun W hW => ?_) (fun W hW => ?_) ?_
        rotate_left 3
        · go_simp <;> first | with_reducible rfl | exact ⟨rfl, rfl⟩
        · with_reducible exact CS1.out W
        simp only [Act.put, List.setIfInBounds_toArray, List.set_cons_zero, List.set_cons_succ]
        refine lexW_value (v := ?_) (by rfl) (by rfl) (fun W hW => ?_) ?_
        rotate_left
        · have l1 := run_loadFe hW.f.a; go_simp <;> with_reducible rfl
        simp only [Act.put, List.setIfInBounds_toArray, List.set_cons_zero, List.set_cons_succ]
        refine' lexW_call (by rfl) (by rfl) (fun W hW => ?_) (fun W hW => ?_) ?_
        rotate_left 3
        · go_simp <;> first | with_reducible rfl | exact ⟨rfl, rfl⟩
        · with_reducible exact CM1.out W
        simp only [Act.put, List.setIfInBounds_toArray, List.set_cons_zero, List.set_cons_succ]
        refine lexW_nil (fun b W hW hE => ?_)
        obtain rfl := lexEnd_none hE
        have hC := hW.f.c
        go_wp2_with (first
          | (with_reducible refine wpList_store_n rfl 24 (.tmp 6) (.tmp 26) rfl g6 (lims y.val) 4 rfl rfl rfl (lims x.val) hW.h Tryd.infoFe rfl w.heap.size w hW.f.d (by omega) ?_
             intro w7 H7 o7 s7 b7
             have hC7 := hC.oth o7 (by omega)
             clear s7)
          | (with_reducible refine wpList_load_n rfl 24 (.tmp 6) rfl g6 rfl (lims y.val) 4 H7 rfl Tryd.underlying24 Tryd.infoFe ?_)
          | (with_reducible refine wpList_store_n rfl 24 (.tmp 4) (.tmp 27) rfl (w.heap.size + 1) (lims y.val) 4 rfl rfl rfl (lims 0) hC7 Tryd.infoFe rfl w.heap.size w b7 (by omega) ?_; intro w8 Hg _ _ hb8)
          | fail)
        exact bodyPost_ret (results_cell_row rfl _ _ _ _ _ _ _ rfl Hg Tryd.underlying24 rfl (by rw [Tryd.infoFe]; rfl)) rfl ⟨by rw [R.out]; rfl, hb8⟩
      · have R := Lib.hid (R0.out ho)
        clear R1 R0
        have e2 : (((n % 2 : Nat) : Int) == 1) = false := by rw [beq_eq_false_iff_ne]; omega
        generalize n % 2 = par at *
        have hC := F7.f.c
        have hH := F7.h
        go_wp2_with (first
          | (with_reducible refine wpList_load_n rfl 24 (.tmp 6) rfl g6 rfl (lims x.val) 4 hH rfl Tryd.underlying24 Tryd.infoFe ?_)
          | (with_reducible refine wpList_store_n rfl 24 (.tmp 4) (.tmp 27) rfl (w.heap.size + 1) (lims x.val) 4 rfl rfl rfl (lims 0) hC Tryd.infoFe rfl w.heap.size w F7.f.d (by omega) ?_; intro w8 Hg _ _ hb8)
          | fail)
        exact bodyPost_ret (results_cell_row rfl _ _ _ _ _ _ _ rfl Hg Tryd.underlying24 rfl (by rw [Tryd.infoFe]; rfl)) rfl ⟨by rw [R.out]; rfl, hb8⟩
end
end Go.Proofs.YtlfkohanfeejfaaDoor

namespace Go.Proofs.YtlfkohanfeejfaaDoor
open Go.RowKit

theorem inv_pow (a : F) : fpow (fpow a (2 ^ 250 - 1)) (2 ^ 5) * (fpow a (2 ^ 3) * (fpow a (2 ^ 1) * a)) = finv a := by
  rw [← fpow_mul, ← fpow_succ, ← fpow_add, ← fpow_add]
  unfold finv
  congr 1

section
attribute [local go_sem ↓] load_fe

set_option maxRecDepth 100000 in
set_option maxHeartbeats 1000000 in
theorem Inv_any (m : Nat) (w : World) (hm : m < big) :
    Calls Tryd.prog 75 #[fev m] w (GaveF w (finv (toF m)).val) := by
  obtain ⟨hA, hC, hb, hsz⟩ := fe_start2 w m 0 _ #[.int .u64 0, .int .u64 0, .int .u64 0, .int .u64 0] rfl (by kernel_rfl)
  obtain ⟨s3, h3⟩ : ∃ s, s = sqd m 3 := ⟨_, rfl⟩
  obtain ⟨s1, h1⟩ : ∃ s, s = sqd m 1 := ⟨_, rfl⟩
  have C3 : Hid (∀ W, Calls Tryd.prog 87 #[.agg ((lims m).map nv).toArray, .int .i64 3] W fun e w' => e = .returned (.agg ((lims s3).map nv).toArray) ∧ Below W.heap.size W w') := Lib.hid fun W => by rw [h3]; exact squared_any m 3 W hm (by omega)
  have C1 : Hid (∀ W, Calls Tryd.prog 87 #[.agg ((lims m).map nv).toArray, .int .i64 1] W fun e w' => e = .returned (.agg ((lims s1).map nv).toArray) ∧ Below W.heap.size W w') := Lib.hid fun W => by rw [h1]; exact squared_any m 1 W hm (by omega)
  obtain ⟨p, hp⟩ : ∃ p, p = toF s1 * toF m := ⟨_, rfl⟩
  obtain ⟨q, hq⟩ : ∃ q, q = toF s3 * p := ⟨_, rfl⟩
  have M1 : Hid (∀ W, Calls Tryd.prog 43 #[.agg ((lims s1).map nv).toArray, .agg ((lims m).map nv).toArray] W fun e w' => e = .returned (.agg ((lims p.val).map nv).toArray) ∧ Below W.heap.size W w') := Lib.hid fun W => by rw [hp]; exact Mul_any s1 m W (by rw [h1]; exact sqd_lt hm _) hm
  have M2 : Hid (∀ W, Calls Tryd.prog 43 #[.agg ((lims s3).map nv).toArray, .agg ((lims p.val).map nv).toArray] W fun e w' => e = .returned (.agg ((lims q.val).map nv).toArray) ∧ Below W.heap.size W w') := Lib.hid fun W => by
    have := Mul_any s3 p.val W (by rw [h3]; exact sqd_lt hm _) (F.lt_big _)
    rw [toF_of, ← hq] at this
    exact this
  obtain ⟨o, ho⟩ : ∃ o, o = onesv m 250 := ⟨_, rfl⟩
  obtain ⟨s5, h5⟩ : ∃ s, s = sqd o 5 := ⟨_, rfl⟩
  obtain ⟨r, hr⟩ : ∃ r, r = finv (toF m) := ⟨_, rfl⟩
  have hob : o < big := by rw [ho]; exact onesv_lt hm _
  have CO : Hid (∀ W, Calls Tryd.prog 88 #[.agg ((lims m).map nv).toArray, .int .i64 250] W fun e w' => e = .returned (.agg ((lims o).map nv).toArray) ∧ Below W.heap.size W w') := Lib.hid fun W => by rw [ho]; exact ones_any m hm 250 W (by omega) (by omega)
  have C5 : Hid (∀ W, Calls Tryd.prog 87 #[.agg ((lims o).map nv).toArray, .int .i64 5] W fun e w' => e = .returned (.agg ((lims s5).map nv).toArray) ∧ Below W.heap.size W w') := Lib.hid fun W => by rw [h5]; exact squared_any o 5 W hob (by omega)
  have M5 : Hid (∀ W, Calls Tryd.prog 43 #[.agg ((lims s5).map nv).toArray, .agg ((lims q.val).map nv).toArray] W fun e w' => e = .returned (.agg ((lims r.val).map nv).toArray) ∧ Below W.heap.size W w') := Lib.hid fun W => by
    have := Mul_any s5 q.val W (by rw [h5]; exact sqd_lt hob _) (F.lt_big _)
    have e : toF s5 * q = r := by
      rw [h5, toF_sqd, ho, toF_onesv, hq, hp, h3, h1, toF_sqd, toF_sqd, hr, inv_pow]
    rw [toF_of, e] at this
    exact this
  rw [← hr]
  clear h3 h1 hp hq ho h5 hr hob
  rw [fev_eq]
  have F0 : Fe1 w m _ := ⟨hA, hC, hb⟩
  clear hA hC hb hsz
  go_enter Tryd.func75, Tryd.ntmps75
  go_upto_region 1 with (fail)
  generalize (w.alloc (.cells ((lims m).map nv).toArray 24)).alloc (.cells #[.int .u64 0, .int .u64 0, .int .u64 0, .int .u64 0] 24) = wv at *
  go_cut [3] (fun vp wx => InBlock (w.heap.size + 2) q.val (Fe1 w m) vp wx)
  case first =>
    refine wp_region_lex 8 (fun k => k == 7) (MadeFe (w.heap.size + 2)) (Fe1 w m) (by kernel_rfl) (by kernel_rfl) (Fe1.stay _ _ F0 (Below.refl _ wv).drew) Fe1.stay MadeFe.stay (made_fe Fe1.size rfl) ?_
    simp only [List.take_succ_cons, List.take_zero, List.drop_succ_cons, List.drop_zero]
    refine lexW_value (v := ?_) (by rfl) (by rfl) (fun W hW => ?_) ?_
    rotate_left
    · have l1 := run_loadFe hW.a; go_simp <;> with_reducible rfl
    simp only [Act.put, List.setIfInBounds_toArray, List.set_cons_zero, List.set_cons_succ]
    refine' lexW_call (by rfl) (by rfl) (fun W hW => ?_) (fun W hW => ?_) ?_
    rotate_left 3
    · go_simp <;> first | with_reducible rfl | exact ⟨rfl, rfl⟩
    · with_reducible exact C3.out W
    simp only [Act.put, List.setIfInBounds_toArray, List.set_cons_zero, List.set_cons_succ]
    refine lexW_value (v := ?_) (by rfl) (by rfl) (fun W hW => ?_) ?_
    rotate_left
    · have l1 := run_loadFe hW.a; go_simp <;> with_reducible rfl
    simp only [Act.put, List.setIfInBounds_toArray, List.set_cons_zero, List.set_cons_succ]
    refine' lexW_call (by rfl) (by rfl) (fun W hW => ?_) (fun W hW => ?_) ?_
    rotate_left 3
    · go_simp <;> first | with_reducible rfl | exact ⟨rfl, rfl⟩
    · with_reducible exact C1.out W
    simp only [Act.put, List.setIfInBounds_toArray, List.set_cons_zero, List.set_cons_succ]
    refine lexW_value (v := ?_) (by rfl) (by rfl) (fun W hW => ?_) ?_
    rotate_left
    · have l1 := run_loadFe hW.a; go_simp <;> with_reducible rfl
    simp only [Act.put, List.setIfInBounds_toArray, List.set_cons_zero, List.set_cons_succ]
    refine' lexW_call (by rfl) (by rfl) (fun W hW => ?_) (fun W hW => ?_) ?_
    rotate_left 3
    · go_simp <;> first | with_reducible rfl | exact ⟨rfl, rfl⟩
    · with_reducible exact M1.out W
    simp only [Act.put, List.setIfInBounds_toArray, List.set_cons_zero, List.set_cons_succ]
    refine' lexW_call (by rfl) (by rfl) (fun W hW => ?_) (fun W hW => ?_) ?_
    rotate_left 3
    · go_simp <;> first | with_reducible rfl | exact ⟨rfl, rfl⟩
    · with_reducible exact M2.out W
    simp only [Act.put, List.setIfInBounds_toArray, List.set_cons_zero, List.set_cons_succ]
    refine lexW_free (by rfl) ?_
    refine lexW_nil (fun b W hW hE => ?_)
    obtain ⟨_, ⟨g, rfl, hg, hZ⟩, rfl⟩ := lexEnd_one (j := 7) (d := 3) (by kernel_rfl) hE
    simp only [Act.put, List.setIfInBounds_toArray, List.set_cons_zero, List.set_cons_succ]
    go_wp2_with (with_reducible refine wpList_store_n rfl 24 (.tmp 3) (.tmp 10) rfl g (lims q.val) 4 rfl rfl rfl (lims 0) hZ Tryd.infoFe rfl w.heap.size w hW.d (by omega) ?_; intro w7 Hg o7 _ hb7)
    go_meet
    exact ⟨g, rfl, hg, Hg, hW.oth o7 hb7 hg⟩
  case rest =>
    obtain ⟨g, rfl, hg, HQ, F1⟩ := hcut
    have F7 : Fe2 w m g q.val wc := ⟨F1, HQ⟩
    go_upto_region 2 with (fail)
    refine wp_region_lex 5 (fun _ => false) (MadeFe 0) (Fe2 w m g q.val) (by kernel_rfl) (by kernel_rfl) (Fe2.stay _ _ F7 (Below.refl _ wc).drew) Fe2.stay MadeFe.stay lex_none ?_
    simp only [List.take_succ_cons, List.take_zero, List.drop_succ_cons, List.drop_zero]
    refine lexW_value (v := ?_) (by rfl) (by rfl) (fun W hW => ?_) ?_
    rotate_left
    · have l1 := run_loadFe hW.f.a; go_simp <;> with_reducible rfl
    simp only [Act.put, List.setIfInBounds_toArray, List.set_cons_zero, List.set_cons_succ]
    refine' lexW_call (by rfl) (by rfl) (fun W hW => ?_) (fun W hW => ?_) ?_
    rotate_left 3
    · go_simp <;> first | with_reducible rfl | exact ⟨rfl, rfl⟩
    · with_reducible exact CO.out W
    simp only [Act.put, List.setIfInBounds_toArray, List.set_cons_zero, List.set_cons_succ]
    refine' lexW_call (by rfl) (by rfl) (fun W hW => ?_) (fun W hW => ?_) ?_
    rotate_left 3
    · go_simp <;> first | with_reducible rfl | exact ⟨rfl, rfl⟩
    · with_reducible exact C5.out W
    simp only [Act.put, List.setIfInBounds_toArray, List.set_cons_zero, List.set_cons_succ]
    refine lexW_value (v := ?_) (by rfl) (by rfl) (fun W hW => ?_) ?_
    rotate_left
    · have l1 := run_loadFe hW.h; go_simp <;> with_reducible rfl
    simp only [Act.put, List.setIfInBounds_toArray, List.set_cons_zero, List.set_cons_succ]
    refine' lexW_call (by rfl) (by rfl) (fun W hW => ?_) (fun W hW => ?_) ?_
    rotate_left 3
    · go_simp <;> first | with_reducible rfl | exact ⟨rfl, rfl⟩
    · with_reducible exact M5.out W
    simp only [Act.put, List.setIfInBounds_toArray, List.set_cons_zero, List.set_cons_succ]
    refine lexW_nil (fun b W hW hE => ?_)
    obtain rfl := lexEnd_none hE
    go_wp2_with (with_reducible refine wpList_store_n rfl 24 (.tmp 2) (.tmp 15) rfl (w.heap.size + 1) (lims r.val) 4 rfl rfl rfl (lims 0) hW.f.c Tryd.infoFe rfl w.heap.size w hW.f.d (by omega) ?_; intro w8 Hg _ _ hb8)
    exact bodyPost_ret (results_cell_row rfl _ _ _ _ _ _ _ rfl Hg Tryd.underlying24 rfl (by rw [Tryd.infoFe]; rfl)) rfl ⟨rfl, hb8⟩
end
end Go.Proofs.YtlfkohanfeejfaaDoor

namespace Go.Proofs.YtlfkohanfeejfaaDoor
open Go.RowKit

section
attribute [local go_sem ↓] load_fe
set_option maxRecDepth 100000 in
set_option maxHeartbeats 4000000 in
theorem rSame_any (m n : Nat) (w : World) (hm : m < big) (hn : n < big) :
    Calls Tryd.prog 61 #[fev m, fev n] w fun e w' => e = .returned (.bool (decide (toF m = toF n))) ∧ Below w.heap.size w w' := by
  obtain ⟨hA, hB, hb, hsz⟩ := fe_start2 w m n _ _ rfl rfl
  obtain ⟨a, ha⟩ : ∃ a, a = toF m := ⟨_, rfl⟩
  obtain ⟨b, hbb⟩ : ∃ b, b = toF n := ⟨_, rfl⟩
  have LM : Hid (∀ W, Calls Tryd.prog 57 #[.agg ((lims m).map nv).toArray] W fun e w' => e = .returned (.agg ((lims a.val).map nv).toArray) ∧ Below W.heap.size W w') := Lib.hid fun W => by rw [ha]; exact rLeast_any m W hm
  have LN : Hid (∀ W, Calls Tryd.prog 57 #[.agg ((lims n).map nv).toArray] W fun e w' => e = .returned (.agg ((lims b.val).map nv).toArray) ∧ Below W.heap.size W w') := Lib.hid fun W => by rw [hbb]; exact rLeast_any n W hn
  rw [fev_eq, fev_eq, ← ha, ← hbb]
  clear ha hbb
  have q1 := fun W => run_eql_F a b W
  have q2 := fun x y c d W => run_guard_fe x y c d W
  generalize decide (a = b) = res at *
  go_enter Tryd.func61, Tryd.ntmps61
  go_wp2_with fail
  generalize (w.alloc (.cells ((lims m).map nv).toArray 24)).alloc (.cells ((lims n).map nv).toArray 24) = wv at *
  refine wp_region_noPanic ?_
  refine wp_region_held_drew (S := (fun W => (loadFe 24 ⟨w.heap.size, 0, none⟩).run Tryd.prog W = .ok (.agg ((lims m).map nv).toArray) W ∧ (loadFe 24 ⟨w.heap.size + 1, 0, none⟩).run Tryd.prog W = .ok (.agg ((lims n).map nv).toArray) W)) (by kernel_rfl) (by (try dsimp only); (first | exact ⟨run_loadFe hA, run_loadFe hB⟩ | exact ⟨run_loadFe X1, run_loadFe Y1⟩ | exact ⟨run_loadFe X2, run_loadFe Y2⟩)) (fun hHeld => ?_)
  refine wpAnyH_take (i := 0) (v := ?_) rfl (by kernel_rfl) (by kernel_rfl) (by kernel_rfl) (fun _ _ _ h => h) (Or.inl ⟨by rfl, ?_⟩) (by assumption) ?_
  rotate_left
  · intro w hSw; (try dsimp only at hSw); go_simp <;> with_reducible rfl
  try simp only [Act.put, List.getElem_toArray, List.getElem_cons_zero, List.setIfInBounds_toArray, List.set_cons_zero, List.set_cons_succ]
  refine wpAnyH_take (i := 2) (v := ?_) rfl (by kernel_rfl) (by kernel_rfl) (by kernel_rfl) (fun _ _ _ h => h) (Or.inl ⟨by rfl, ?_⟩) (by assumption) ?_
  rotate_left
  · intro w hSw; (try dsimp only at hSw); go_simp <;> with_reducible rfl
  try simp only [Act.put, List.getElem_toArray, List.getElem_cons_succ, List.getElem_cons_zero, List.setIfInBounds_toArray, List.set_cons_zero, List.set_cons_succ]
  refine wpAnyH_ready (rs := [1]) (by kernel_rfl) (by simp) ?_
  refine AllReadyH.cons rfl (fun K hK => ?_) AllReadyH.nil
  go_simp
  ((first | (go_at_call 57; (with_reducible refine (LM.out _).mono ?_); rintro e w1 ⟨rfl, hb1⟩; have X1 := HoldsN.keep (W := wv.drew) hA hb1 hA.lt; have Y1 := HoldsN.keep (W := wv.drew) hB hb1 hB.lt; have B1 := hb.drew.trans (hb1.mono hb.size)) | (go_at_call 57; (with_reducible refine (LN.out _).mono ?_); rintro e w2 ⟨rfl, hb2⟩; have X2 := X1.keep hb2 X1.lt; have Y2 := Y1.keep hb2 Y1.lt; have B2 := B1.trans (hb2.mono B1.size))))
  dsimp only
  refine hK.out _ _ ?_ (fun hHeld => ?_)
  · (try dsimp only); (first | exact ⟨run_loadFe hA, run_loadFe hB⟩ | exact ⟨run_loadFe X1, run_loadFe Y1⟩ | exact ⟨run_loadFe X2, run_loadFe Y2⟩)
  clear hK K
  try simp only [Act.put, List.getElem_toArray, List.getElem_cons_succ, List.getElem_cons_zero, List.setIfInBounds_toArray, List.set_cons_zero, List.set_cons_succ]
  refine wpAnyH_ready (rs := [3]) (by kernel_rfl) (by simp) ?_
  refine AllReadyH.cons rfl (fun K hK => ?_) AllReadyH.nil
  go_simp
  ((first | (go_at_call 57; (with_reducible refine (LM.out _).mono ?_); rintro e w1 ⟨rfl, hb1⟩; have X1 := HoldsN.keep (W := wv.drew) hA hb1 hA.lt; have Y1 := HoldsN.keep (W := wv.drew) hB hb1 hB.lt; have B1 := hb.drew.trans (hb1.mono hb.size)) | (go_at_call 57; (with_reducible refine (LN.out _).mono ?_); rintro e w2 ⟨rfl, hb2⟩; have X2 := X1.keep hb2 X1.lt; have Y2 := Y1.keep hb2 Y1.lt; have B2 := B1.trans (hb2.mono B1.size))))
  dsimp only
  refine hK.out _ _ ?_ (fun hHeld => ?_)
  · (try dsimp only); (first | exact ⟨run_loadFe hA, run_loadFe hB⟩ | exact ⟨run_loadFe X1, run_loadFe Y1⟩ | exact ⟨run_loadFe X2, run_loadFe Y2⟩)
  clear hK K
  try simp only [Act.put, List.getElem_toArray, List.getElem_cons_succ, List.getElem_cons_zero, List.setIfInBounds_toArray, List.set_cons_zero, List.set_cons_succ]
  refine wpAnyH_take (i := 4) (v := ?_) rfl (by kernel_rfl) (by kernel_rfl) (by kernel_rfl) (fun _ _ _ h => h) (Or.inl ⟨by rfl, ?_⟩) (by assumption) ?_
  rotate_left
  · intro w hSw; (try dsimp only at hSw); go_simp <;> with_reducible rfl
  try simp only [Act.put, List.getElem_toArray, List.getElem_cons_succ, List.getElem_cons_zero, List.setIfInBounds_toArray, List.set_cons_zero, List.set_cons_succ]
  refine wpAnyH_take (i := 5) (v := ?_) rfl (by kernel_rfl) (by kernel_rfl) (by kernel_rfl) (fun _ _ _ h => h) (Or.inl ⟨by rfl, ?_⟩) (by assumption) ?_
  rotate_left
  · intro w hSw; (try dsimp only at hSw); go_simp <;> with_reducible rfl
  try simp only [Act.put, List.getElem_toArray, List.getElem_cons_succ, List.getElem_cons_zero, List.setIfInBounds_toArray, List.set_cons_zero, List.set_cons_succ]
  refine wpAnyH_done (by kernel_rfl) ?_ _
  refine NoPanic.normal ?_
  go_wp2
  go_ret
  exact ⟨rfl, B2⟩
end

theorem odd_val (a : F) : decide (limb a.val 0 % 2 = 1) = fodd a := by
  unfold fodd limb
  rw [Nat.pow_zero, Nat.div_one]
  congr 1
  have : a.val % 18446744073709551616 % 2 = a.val % 2 := by omega
  rw [this]

set_option maxRecDepth 100000 in
set_option maxHeartbeats 1000000 in
theorem rOdd_any (m : Nat) (w : World) (hm : m < big) :
    Calls Tryd.prog 37 #[fev m] w fun e w' => e = .returned (.bool (fodd (toF m))) ∧ Below w.heap.size w w' := by
  obtain ⟨hA, hb, hsz⟩ := fe_start w m _ rfl
  obtain ⟨a, ha⟩ : ∃ a, a = toF m := ⟨_, rfl⟩
  have LM : Hid (∀ W, Calls Tryd.prog 57 #[.agg ((lims m).map nv).toArray] W fun e w' => e = .returned (.agg ((lims a.val).map nv).toArray) ∧ Below W.heap.size W w') := Lib.hid fun W => by rw [ha]; exact rLeast_any m W hm
  rw [fev_eq, ← ha]
  clear ha
  have hodd := Lib.hid (odd_val a)
  go_enter Tryd.func37, Tryd.ntmps37
  go_wp2_with (first
    | (with_reducible refine wpList_load_n rfl 24 (.tmp 1) rfl w.heap.size rfl (lims m) 4 (by with_unfolding_all exact hA) rfl Tryd.underlying24 Tryd.infoFe ?_)
    | (go_at_call 57
       with_reducible refine (LM.out _).mono ?_
       rintro e w3 ⟨rfl, hb3⟩
       have hA3 := hA.keep hb3 hA.lt
       have b3 := hb.trans (hb3.mono hb.size))
    | (with_reducible refine wpList_store_n rfl 24 (.tmp 1) (.tmp 4) rfl w.heap.size (lims a.val) 4 rfl rfl rfl (lims m) hA3 Tryd.infoFe rfl w.heap.size w b3 (Nat.le_refl _) ?_
       intro w4 hA4 o4 s4 b4
       have c4 := hA4.cell (j := 0) (by rw [lims_length]; omega)
       rw [lims_get _ (by omega)] at c4))
  generalize limb a.val 0 = x at *
  have hm2 : (x : Int).tmod 2 = ((x % 2 : Nat) : Int) := by rw [Int.tmod_eq_emod_of_nonneg (Int.natCast_nonneg _)]; rfl
  go_ret
  refine ⟨?_, b4⟩
  rw [← hodd.out]
  have hx : x % 2 < 2 := Nat.mod_lt _ (by omega)
  by_cases h : x % 2 = 1
  · rw [decide_eq_true h]
    simp []
    omega
  · rw [decide_eq_false h]
    simp []
    omega
end Go.Proofs.YtlfkohanfeejfaaDoor

namespace Go.Proofs.YtlfkohanfeejfaaDoor
open Go.RowKit
theorem Tryd.infoB32 : (Tryd.prog.info? 27).map (·.size) = some 32 := by kernel_rfl
theorem Tryd.builtB32 : Tryd.prog.built 27 [] = some zb := by kernel_rfl
end Go.Proofs.YtlfkohanfeejfaaDoor
