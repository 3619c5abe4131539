/-
  What the laws of layer 6 share: the program's functions said of points.
  What the program tries as a root of a quotient: where it, or a root of -1 times it, is one, that is the root; else there is none. Pure.
  The program's numbers modulo P: what is tried as a root.
-/
import Derived.Test.YtlfkohanfeejfaaDoorMaa
import Derived.Test.YtlfkohanfeejfaaDoorMan
import Derived.Test.YtlfkohanfeejfaaDoorMau
import Derived.Test.YtlfkohanfeejfaaDoorMbb
namespace Go.Proofs.YtlfkohanfeejfaaDoor
open Go.RowKit
namespace Crv
theorem base_q (w : World) (L : Laid w) : Calls Tryd.prog 22 #[] w (Gave w (nums pbase)) := (Base_any w L).mono fun _ _ => gaveP_base
theorem zero_q (w : World) (L : Laid w) : Calls Tryd.prog 18 #[] w (Gave w (nums Pt.none)) := (Zero_any w L).mono fun _ _ => gaveP_none
theorem check_q (s : Nat × Nat) (w : World) (hs : ok s) (L : Laid w) : Calls Tryd.prog 16 #[.agg ((limsL [s.1, s.2]).map nv).toArray] w fun e w' => e = .returned (.bool (decide (On (toF s.1, toF s.2)))) ∧ Below w.heap.size w w' := Check_any s.1 s.2 w hs.1 hs.2 L
theorem same_q (s t : Nat × Nat) (w : World) (hs : ok s) (ht : ok t) (L : Laid w) : Calls Tryd.prog 17 #[.agg ((limsL [s.1, s.2]).map nv).toArray, .agg ((limsL [t.1, t.2]).map nv).toArray] w fun e w' => e = .returned (.bool (decide (pt s = pt t))) ∧ Below w.heap.size w w' := by
  have h := Same_any s.1 s.2 t.1 t.2 w hs.1 hs.2 ht.1 ht.2 L
  rw [decide_eq_decide.2 (same_iff s t)] at h
  exact h
theorem add_q (s t : Nat × Nat) (w : World) (hs : ok s) (ht : ok t) (L : Laid w) : Calls Tryd.prog 21 #[.agg ((limsL [s.1, s.2]).map nv).toArray, .agg ((limsL [t.1, t.2]).map nv).toArray] w (Gave w (nums ((pt s).plus (pt t)))) := (Add_any s.1 s.2 t.1 t.2 w hs.1 hs.2 ht.1 ht.2 L).mono fun _ _ h => gave_of (p := (pt s).plus (pt t)) h
theorem neg_q (s : Nat × Nat) (w : World) (hs : ok s) (L : Laid w) : Calls Tryd.prog 19 #[.agg ((limsL [s.1, s.2]).map nv).toArray] w (Gave w (nums (pt s).opp)) := (Neg_any s.1 s.2 w hs.1 hs.2 L).mono fun _ _ h => gave_of (p := (pt s).opp) h
theorem mul_q (k : Nat) (s : Nat × Nat) (w : World) (hk : k < big) (hs : ok s) (L : Laid w) : Calls Tryd.prog 40 #[.agg ((lims k).map nv).toArray, .agg ((limsL [s.1, s.2]).map nv).toArray] w (Gave w (nums (Pt.times (toS k).val (pt s)))) := (Mul_any k s.1 s.2 w hk hs.1 hs.2 L).mono fun _ _ h => gave_of (p := Pt.times (toS k).val (pt s)) h
theorem clear_q (s : Nat × Nat) (w : World) (hs : ok s) (L : Laid w) : Calls Tryd.prog 38 #[.agg ((limsL [s.1, s.2]).map nv).toArray] w (Gave w (nums (Pt.times 8 (pt s)))) := (Clear_any s.1 s.2 w hs.1 hs.2 L).mono fun _ _ h => by
  rw [← pt_val, clear_eq] at h
  exact gave_of h
theorem sadd_q (a b : Nat) (w : World) (ha : a < big) (hb : b < big) (L : Laid w) : Calls Tryd.prog 20 #[.agg ((lims a).map nv).toArray, .agg ((lims b).map nv).toArray] w fun e w' => e = .returned (.agg ((lims (toS a + toS b).val).map nv).toArray) ∧ Below w.heap.size w w' := SAdd_any a b w ha hb L
theorem fsame_q (a b : Nat) (w : World) (ha : a < big) (hb : b < big) (L : Laid w) : Calls Tryd.prog 44 #[.agg ((lims a).map nv).toArray, .agg ((lims b).map nv).toArray] w fun e w' => e = .returned (.bool (decide (toF a = toF b))) ∧ Below w.heap.size w w' := FSame_any a b w ha hb L

end Crv
end Go.Proofs.YtlfkohanfeejfaaDoor

namespace Go.Proofs.YtlfkohanfeejfaaDoor

def uv3 (u v : F) : F := u * (v * fpow v (2 ^ 1))
def uv7 (u v : F) : F := uv3 u v * fpow v (2 ^ 2)
def near (u v : F) : F := uv3 u v * (fpow (fpow (uv7 u v) (2 ^ 250 - 1)) (2 ^ 2) * uv7 u v)
theorem pow_two1 (v : F) : fpow v (2 ^ 1) = v * v := by rw [Nat.pow_one, fpow_two]
theorem pow_two2 (v : F) : fpow v (2 ^ 2) = v * v * (v * v) := by rw [show 2 ^ 2 = 2 + 2 from rfl, fpow_add, fpow_two]
theorem near_eq (u v : F) : near u v = uv3 u v * fpow (uv7 u v) ((PP - 5) / 8) := by
  unfold near
  generalize uv7 u v = x
  rw [← fpow_mul, ← fpow_succ, show (2 ^ 250 - 1) * 2 ^ 2 + 1 = (PP - 5) / 8 by decide]
theorem near_sq (u v : F) : v * (near u v * near u v) = u * fpow (uv7 u v) ((PP - 1) / 4) := by
  rw [near_eq, show (PP - 1) / 4 = (PP - 5) / 8 + (PP - 5) / 8 + 1 by decide, fpow_succ, fpow_add]
  generalize fpow (uv7 u v) ((PP - 5) / 8) = p
  unfold uv7 uv3
  rw [pow_two1, pow_two2]
  grind
theorem uv7_sq {u v x : F} (h : v * (x * x) = u) : uv7 u v = (v * v * (v * v) * x) * (v * v * (v * v) * x) := by
  unfold uv7 uv3
  rw [pow_two1, pow_two2, ← h]
  grind
theorem near_zero (u : F) : near u 0 = 0 := by
  rw [near_eq]
  have h : uv3 u 0 = 0 := by unfold uv3; generalize fpow 0 (2 ^ 1) = p; grind
  rw [h]
  generalize fpow (uv7 u 0) ((PP - 5) / 8) = p
  grind
def nearRoot (u v i : F) : F × Bool :=
  if v * (near u v * near u v) = u then (even (near u v), true) else if v * (near u v * near u v) = -u then (even (near u v * i), true) else (0, false)
theorem F.neg_zero' {u : F} (h : (0 : F) = -u) : u = 0 := by grind
theorem F.zm (y : F) : 0 * (y * y) = 0 := by grind
theorem F.z_one (u : F) : u * 1 = u := by grind
theorem F.z_neg (u : F) : u * -1 = -u := by grind
theorem F.by_i {v y i u : F} (h : v * (y * y) = -u) (hi : i * i = -1) : v * ((y * i) * (y * i)) = u := by grind
theorem nearRoot_eq (u v i : F) (hi : i * i = -1) : nearRoot u v i = froot u v := by
  unfold nearRoot
  by_cases hv : v = 0
  · subst hv
    rw [near_zero]
    have e0 : even 0 = 0 := rfl
    rw [F.zm]
    by_cases hu : (0 : F) = u
    · rw [if_pos hu, e0, froot_unique (x := 0) (by rw [F.zm]; exact hu) fodd_zero (fun _ => rfl)]
    · rw [if_neg hu, if_neg (fun h => hu (F.neg_zero' h).symm), froot_only (fun x => by rw [F.zm]; exact hu)]
  · have hs := near_sq u v
    have hz := near_eq u v
    by_cases h1 : v * (near u v * near u v) = u
    · rw [if_pos h1, froot_unique (x := even (near u v)) (by rw [even_sq]; exact h1) (even_even _) (fun h => absurd h hv)]
    · rw [if_neg h1]
      by_cases h2 : v * (near u v * near u v) = -u
      · rw [if_pos h2, froot_unique (x := even (near u v * i)) (by rw [even_sq]; exact F.by_i h2 hi) (even_even _) (fun h => absurd h hv)]
      · rw [if_neg h2, froot_only (fun x hx => ?_)]
        have h7 := uv7_sq hx
        by_cases hn : v * v * (v * v) * x = 0
        · rw [hn, F.zmul] at h7
          rw [h7, zero_fpow (by decide), F.mulz] at hs
          have hx0 : x = 0 := by
            rcases F.mul_zero' hn with h | h
            · exact absurd h (F.mul_ne (F.mul_ne hv hv) (F.mul_ne hv hv))
            · exact h
          rw [hx0, F.zmul, F.mulz] at hx
          exact h1 (hs.trans hx)
        · have hc : chi (uv7 u v) = 1 := by rw [h7]; exact chi_of_sq hn
          have hq := quarter_sq (uv7 u v)
          rw [hc] at hq
          rcases sq_eq (show fpow (uv7 u v) ((PP - 1) / 4) * fpow (uv7 u v) ((PP - 1) / 4) = 1 * 1 by rw [hq, F.pp]) with h | h
          · rw [h, F.z_one] at hs; exact h1 hs
          · rw [h, F.z_neg] at hs; exact h2 hs
end Go.Proofs.YtlfkohanfeejfaaDoor

namespace Go.Proofs.YtlfkohanfeejfaaDoor
open Go.RowKit

/-- And a further block, that holds a number. -/
structure RB1 (w : World) (m n g h : Nat) (W : World) : Prop where
  f : RB w m n W
  h : HoldsN W 24 g (lims h)
theorem RB.len {w : World} {m n : Nat} (W : World) (h : RB w m n W) : w.heap.size + 3 ≤ W.heap.size := h.size
theorem RB1.stay {w : World} {m n g h : Nat} : ∀ W W', RB1 w m n g h W → Below W.heap.size W W' → RB1 w m n g h W' := fun _ _ p hb => ⟨p.f.keep hb, p.h.keep hb p.h.lt⟩
theorem RB1.len {w : World} {m n g h : Nat} (W : World) (p : RB1 w m n g h W) : max (w.heap.size + 3) (g + 1) ≤ W.heap.size := Nat.max_le.2 ⟨p.f.size, p.h.lt⟩
theorem RB1.oth {w W W' : World} {m n g h g' : Nat} (p : RB1 w m n g h W) (ho : ∀ k, k ≠ g' → W'.heap[k]? = W.heap[k]?) (hb : Below w.heap.size w W') (hg : max (w.heap.size + 3) (g + 1) ≤ g') : RB1 w m n g h W' := ⟨p.f.oth ho hb (by omega), p.h.oth ho (by omega)⟩
structure RB2 (w : World) (m n g h g2 h2 : Nat) (W : World) : Prop where
  f : RB1 w m n g h W
  h : HoldsN W 24 g2 (lims h2)
theorem RB2.stay {w : World} {m n g h g2 h2 : Nat} : ∀ W W', RB2 w m n g h g2 h2 W → Below W.heap.size W W' → RB2 w m n g h g2 h2 W' := fun _ _ p hb => ⟨RB1.stay _ _ p.f hb, p.h.keep hb p.h.lt⟩

section
attribute [local go_sem ↓] load_fe

set_option maxRecDepth 100000 in
set_option maxHeartbeats 1000000 in
theorem nearRoot_any (m n : Nat) (w : World) (hm : m < big) (hn : n < big) :
    Calls Tryd.prog 76 #[fev m, fev n] w (GaveF w (near (toF m) (toF n)).val) := by
  obtain ⟨hA, hB, hC, hb, hsz⟩ := fe_start3 w m n 0 _ _ #[.int .u64 0, .int .u64 0, .int .u64 0, .int .u64 0] rfl rfl (by kernel_rfl)
  have F0 : RB w m n _ := ⟨hA, hB, hC, hb⟩
  clear hA hB hC hb hsz
  obtain ⟨s1, h1⟩ : ∃ s, s = sqd n 1 := ⟨_, rfl⟩
  obtain ⟨v3, hv3⟩ : ∃ x, x = toF n * toF s1 := ⟨_, rfl⟩
  obtain ⟨x3, hx3⟩ : ∃ x, x = toF m * v3 := ⟨_, rfl⟩
  obtain ⟨s2, h2⟩ : ∃ s, s = sqd n 2 := ⟨_, rfl⟩
  obtain ⟨x7, hx7⟩ : ∃ x, x = x3 * toF s2 := ⟨_, rfl⟩
  obtain ⟨o, ho⟩ : ∃ o, o = onesv x7.val 250 := ⟨_, rfl⟩
  obtain ⟨s3, h3⟩ : ∃ s, s = sqd o 2 := ⟨_, rfl⟩
  obtain ⟨p, hp⟩ : ∃ x, x = toF s3 * x7 := ⟨_, rfl⟩
  obtain ⟨r, hr⟩ : ∃ x, x = near (toF m) (toF n) := ⟨_, rfl⟩
  have e3 : x3 = uv3 (toF m) (toF n) := by rw [hx3, hv3, h1, toF_sqd]; rfl
  have e7 : x7 = uv7 (toF m) (toF n) := by rw [hx7, e3, h2, toF_sqd]; rfl
  have er : x3 * p = r := by rw [hp, h3, toF_sqd, ho, toF_onesv, toF_of, hr, e3, e7]; rfl
  have hob : o < big := by rw [ho]; exact onesv_lt (F.lt_big _) _
  have C1 : Hid (∀ W, Calls Tryd.prog 87 #[.agg ((lims n).map nv).toArray, .int .i64 1] W fun e w' => e = .returned (.agg ((lims s1).map nv).toArray) ∧ Below W.heap.size W w') := Lib.hid fun W => by rw [h1]; exact squared_any n 1 W hn (by omega)
  have M1 : Hid (∀ W, Calls Tryd.prog 43 #[.agg ((lims n).map nv).toArray, .agg ((lims s1).map nv).toArray] W fun e w' => e = .returned (.agg ((lims v3.val).map nv).toArray) ∧ Below W.heap.size W w') := Lib.hid fun W => by rw [hv3]; exact Mul_any n s1 W hn (by rw [h1]; exact sqd_lt hn _)
  have M2 : Hid (∀ W, Calls Tryd.prog 43 #[.agg ((lims m).map nv).toArray, .agg ((lims v3.val).map nv).toArray] W fun e w' => e = .returned (.agg ((lims x3.val).map nv).toArray) ∧ Below W.heap.size W w') := Lib.hid fun W => by
    have := Mul_any m v3.val W hm (F.lt_big _)
    rw [toF_of, ← hx3] at this
    exact this
  have C2 : Hid (∀ W, Calls Tryd.prog 87 #[.agg ((lims n).map nv).toArray, .int .i64 2] W fun e w' => e = .returned (.agg ((lims s2).map nv).toArray) ∧ Below W.heap.size W w') := Lib.hid fun W => by rw [h2]; exact squared_any n 2 W hn (by omega)
  have M3 : Hid (∀ W, Calls Tryd.prog 43 #[.agg ((lims x3.val).map nv).toArray, .agg ((lims s2).map nv).toArray] W fun e w' => e = .returned (.agg ((lims x7.val).map nv).toArray) ∧ Below W.heap.size W w') := Lib.hid fun W => by
    have := Mul_any x3.val s2 W (F.lt_big _) (by rw [h2]; exact sqd_lt hn _)
    rw [toF_of, ← hx7] at this
    exact this
  have CO : Hid (∀ W, Calls Tryd.prog 88 #[.agg ((lims x7.val).map nv).toArray, .int .i64 250] W fun e w' => e = .returned (.agg ((lims o).map nv).toArray) ∧ Below W.heap.size W w') := Lib.hid fun W => by rw [ho]; exact ones_any x7.val (F.lt_big _) 250 W (by omega) (by omega)
  have C3 : Hid (∀ W, Calls Tryd.prog 87 #[.agg ((lims o).map nv).toArray, .int .i64 2] W fun e w' => e = .returned (.agg ((lims s3).map nv).toArray) ∧ Below W.heap.size W w') := Lib.hid fun W => by rw [h3]; exact squared_any o 2 W hob (by omega)
  have M4 : Hid (∀ W, Calls Tryd.prog 43 #[.agg ((lims s3).map nv).toArray, .agg ((lims x7.val).map nv).toArray] W fun e w' => e = .returned (.agg ((lims p.val).map nv).toArray) ∧ Below W.heap.size W w') := Lib.hid fun W => by
    have := Mul_any s3 x7.val W (by rw [h3]; exact sqd_lt hob _) (F.lt_big _)
    rw [toF_of, ← hp] at this
    exact this
  have M5 : Hid (∀ W, Calls Tryd.prog 43 #[.agg ((lims x3.val).map nv).toArray, .agg ((lims p.val).map nv).toArray] W fun e w' => e = .returned (.agg ((lims r.val).map nv).toArray) ∧ Below W.heap.size W w') := Lib.hid fun W => by
    have := Mul_any x3.val p.val W (F.lt_big _) (F.lt_big _)
    rw [toF_of, toF_of, er] at this
    exact this
  rw [fev_eq, fev_eq, ← hr]
  clear h1 hv3 hx3 h2 hx7 ho h3 hp hr e3 e7 er hob hm hn
  generalize v3.val = v3 at *
  generalize x3.val = x3 at *
  generalize x7.val = x7 at *
  generalize p.val = p at *
  generalize r.val = r at *
  go_enter Tryd.func76, Tryd.ntmps76
  go_upto_region 1 with (fail)
  generalize ((w.alloc (.cells ((lims m).map nv).toArray 24)).alloc (.cells ((lims n).map nv).toArray 24)).alloc (.cells #[.int .u64 0, .int .u64 0, .int .u64 0, .int .u64 0] 24) = wv at *
  go_cut [5] (fun vp wx => InBlock (w.heap.size + 3) x3 (RB w m n) vp wx)
  case first =>
    refine wp_region_lex 7 (fun k => k == 6) (MadeFe (w.heap.size + 3)) (RB w m n) (by kernel_rfl) (by kernel_rfl) (RB.stay _ _ F0 (Below.refl _ wv).drew) RB.stay MadeFe.stay (made_fe RB.len rfl) ?_
    simp only [List.take_succ_cons, List.take_zero, List.drop_succ_cons, List.drop_zero]
    refine lexW_value (v := ?_) (by rfl) (by rfl) (fun W hW => ?_) ?_
    rotate_left
    · have l1 := run_loadFe hW.a; go_simp <;> with_reducible rfl
    simp only [Act.put, List.setIfInBounds_toArray, List.set_cons_zero, List.set_cons_succ]
    refine lexW_value (v := ?_) (by rfl) (by rfl) (fun W hW => ?_) ?_
    rotate_left
    · have l1 := run_loadFe hW.b; go_simp <;> with_reducible rfl
    simp only [Act.put, List.setIfInBounds_toArray, List.set_cons_zero, List.set_cons_succ]
    refine lexW_value (v := ?_) (by rfl) (by rfl) (fun W hW => ?_) ?_
    rotate_left
    · have l1 := run_loadFe hW.b; go_simp <;> with_reducible rfl
    simp only [Act.put, List.setIfInBounds_toArray, List.set_cons_zero, List.set_cons_succ]
    refine' lexW_call (by rfl) (by rfl) (fun W hW => ?_) (fun W hW => ?_) ?_
    rotate_left 3
    · go_simp <;> first | with_reducible rfl | exact ⟨rfl, rfl⟩
    · with_reducible exact C1.out W
    simp only [Act.put, List.setIfInBounds_toArray, List.set_cons_zero, List.set_cons_succ]
    refine' lexW_call (by rfl) (by rfl) (fun W hW => ?_) (fun W hW => ?_) ?_
    rotate_left 3
    · go_simp <;> first | with_reducible rfl | exact ⟨rfl, rfl⟩
    · with_reducible exact M1.out W
    simp only [Act.put, List.setIfInBounds_toArray, List.set_cons_zero, List.set_cons_succ]
    refine' lexW_call (by rfl) (by rfl) (fun W hW => ?_) (fun W hW => ?_) ?_
    rotate_left 3
    · go_simp <;> first | with_reducible rfl | exact ⟨rfl, rfl⟩
    · with_reducible exact M2.out W
    simp only [Act.put, List.setIfInBounds_toArray, List.set_cons_zero, List.set_cons_succ]
    refine lexW_free (by rfl) ?_
    refine lexW_nil (fun b W hW hE => ?_)
    obtain ⟨_, ⟨g, rfl, hg, hZ⟩, rfl⟩ := lexEnd_one (j := 6) (d := 5) (by kernel_rfl) hE
    simp only [Act.put, List.setIfInBounds_toArray, List.set_cons_zero, List.set_cons_succ]
    go_wp2_with (with_reducible refine wpList_store_n rfl 24 (.tmp 5) (.tmp 12) rfl g (lims x3) 4 rfl rfl rfl (lims 0) hZ Tryd.infoFe rfl w.heap.size w hW.d (by omega) ?_; intro w7 Hg o7 _ hb7)
    go_meet
    exact ⟨g, rfl, hg, Hg, hW.oth o7 hb7 hg⟩
  case rest =>
    obtain ⟨g, rfl, hg, HQ, R1⟩ := hcut
    have F1 : RB1 w m n g x3 wc := ⟨R1, HQ⟩
    clear R1 HQ
    go_upto_region 2 with (fail)
    go_cut [6] (fun vp wx => InBlock (max (w.heap.size + 3) (g + 1)) x7 (RB1 w m n g x3) vp wx)
    case first =>
      refine wp_region_lex 5 (fun k => k == 4) (MadeFe (max (w.heap.size + 3) (g + 1))) (RB1 w m n g x3) (by kernel_rfl) (by kernel_rfl) (RB1.stay _ _ F1 (Below.refl _ wc).drew) RB1.stay MadeFe.stay (made_fe RB1.len rfl) ?_
      simp only [List.take_succ_cons, List.take_zero, List.drop_succ_cons, List.drop_zero]
      refine lexW_value (v := ?_) (by rfl) (by rfl) (fun W hW => ?_) ?_
      rotate_left
      · have l1 := run_loadFe hW.h; go_simp <;> with_reducible rfl
      simp only [Act.put, List.setIfInBounds_toArray, List.set_cons_zero, List.set_cons_succ]
      refine lexW_value (v := ?_) (by rfl) (by rfl) (fun W hW => ?_) ?_
      rotate_left
      · have l1 := run_loadFe hW.f.b; go_simp <;> with_reducible rfl
      simp only [Act.put, List.setIfInBounds_toArray, List.set_cons_zero, List.set_cons_succ]
      refine' lexW_call (by rfl) (by rfl) (fun W hW => ?_) (fun W hW => ?_) ?_
      rotate_left 3
      · go_simp <;> first | with_reducible rfl | exact ⟨rfl, rfl⟩
      · with_reducible exact C2.out W
      simp only [Act.put, List.setIfInBounds_toArray, List.set_cons_zero, List.set_cons_succ]
      refine' lexW_call (by rfl) (by rfl) (fun W hW => ?_) (fun W hW => ?_) ?_
      rotate_left 3
      · go_simp <;> first | with_reducible rfl | exact ⟨rfl, rfl⟩
      · with_reducible exact M3.out W
      simp only [Act.put, List.setIfInBounds_toArray, List.set_cons_zero, List.set_cons_succ]
      refine lexW_free (by rfl) ?_
      refine lexW_nil (fun b W hW hE => ?_)
      obtain ⟨_, ⟨g2, rfl, hg2, hZ⟩, rfl⟩ := lexEnd_one (j := 4) (d := 6) (by kernel_rfl) hE
      simp only [Act.put, List.setIfInBounds_toArray, List.set_cons_zero, List.set_cons_succ]
      go_wp2_with (with_reducible refine wpList_store_n rfl 24 (.tmp 6) (.tmp 16) rfl g2 (lims x7) 4 rfl rfl rfl (lims 0) hZ Tryd.infoFe rfl w.heap.size w hW.f.d (by omega) ?_; intro w7 Hg o7 _ hb7)
      go_meet
      exact ⟨g2, rfl, hg2, Hg, hW.oth o7 hb7 hg2⟩
    case rest =>
      obtain ⟨g2, rfl, hg2, HQ, R2⟩ := hcut
      have F2 : RB2 w m n g x3 g2 x7 wc := ⟨R2, HQ⟩
      clear R2 HQ
      go_upto_region 3 with (fail)
      refine wp_region_lex 7 (fun _ => false) (MadeFe 0) (RB2 w m n g x3 g2 x7) (by kernel_rfl) (by kernel_rfl) (RB2.stay _ _ F2 (Below.refl _ wc).drew) RB2.stay MadeFe.stay lex_none ?_
      simp only [List.take_succ_cons, List.take_zero, List.drop_succ_cons, List.drop_zero]
      refine lexW_value (v := ?_) (by rfl) (by rfl) (fun W hW => ?_) ?_
      rotate_left
      · have l1 := run_loadFe hW.f.h; go_simp <;> with_reducible rfl
      simp only [Act.put, List.setIfInBounds_toArray, List.set_cons_zero, List.set_cons_succ]
      refine lexW_value (v := ?_) (by rfl) (by rfl) (fun W hW => ?_) ?_
      rotate_left
      · have l1 := run_loadFe hW.h; go_simp <;> with_reducible rfl
      simp only [Act.put, List.setIfInBounds_toArray, List.set_cons_zero, List.set_cons_succ]
      refine' lexW_call (by rfl) (by rfl) (fun W hW => ?_) (fun W hW => ?_) ?_
      rotate_left 3
      · go_simp <;> first | with_reducible rfl | exact ⟨rfl, rfl⟩
      · with_reducible exact CO.out W
      simp only [Act.put, List.setIfInBounds_toArray, List.set_cons_zero, List.set_cons_succ]
      refine' lexW_call (by rfl) (by rfl) (fun W hW => ?_) (fun W hW => ?_) ?_
      rotate_left 3
      · go_simp <;> first | with_reducible rfl | exact ⟨rfl, rfl⟩
      · with_reducible exact C3.out W
      simp only [Act.put, List.setIfInBounds_toArray, List.set_cons_zero, List.set_cons_succ]
      refine lexW_value (v := ?_) (by rfl) (by rfl) (fun W hW => ?_) ?_
      rotate_left
      · have l1 := run_loadFe hW.h; go_simp <;> with_reducible rfl
      simp only [Act.put, List.setIfInBounds_toArray, List.set_cons_zero, List.set_cons_succ]
      refine' lexW_call (by rfl) (by rfl) (fun W hW => ?_) (fun W hW => ?_) ?_
      rotate_left 3
      · go_simp <;> first | with_reducible rfl | exact ⟨rfl, rfl⟩
      · with_reducible exact M4.out W
      simp only [Act.put, List.setIfInBounds_toArray, List.set_cons_zero, List.set_cons_succ]
      refine' lexW_call (by rfl) (by rfl) (fun W hW => ?_) (fun W hW => ?_) ?_
      rotate_left 3
      · go_simp <;> first | with_reducible rfl | exact ⟨rfl, rfl⟩
      · with_reducible exact M5.out W
      simp only [Act.put, List.setIfInBounds_toArray, List.set_cons_zero, List.set_cons_succ]
      refine lexW_nil (fun b W hW hE => ?_)
      obtain rfl := lexEnd_none hE
      have hC : HoldsN W 24 (w.heap.size + 1 + 1) (lims 0) := hW.f.f.c
      go_wp2_with (with_reducible refine wpList_store_n rfl 24 (.tmp 4) (.tmp 23) rfl (w.heap.size + 1 + 1) (lims r) 4 rfl rfl rfl (lims 0) hC Tryd.infoFe rfl w.heap.size w hW.f.f.d (by omega) ?_; intro w8 Hg _ _ hb8)
      exact bodyPost_ret (results_cell_row rfl _ _ _ _ _ _ _ rfl Hg Tryd.underlying24 rfl (by rw [Tryd.infoFe]; rfl)) rfl ⟨rfl, hb8⟩
end
end Go.Proofs.YtlfkohanfeejfaaDoor
