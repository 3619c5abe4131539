/-
  The document's curve: so many of a point.
-/
import Derived.Test.YtlfkohanfeejfaaDoorMal
namespace Go.Proofs.YtlfkohanfeejfaaDoor
open Go.RowKit

/-- The point that numbers are taken as, as one of the curve. -/
def qOf (x y : Nat) : Pt := ⟨pOf x y, on_pOf x y⟩
theorem qOf_val (x y : Nat) : (qOf x y).1 = pOf x y := rfl
theorem vals_mk (a b : F) : (vals (a, b)).1 = a.val ∧ (vals (a, b)).2 = b.val := ⟨rfl, rfl⟩
def wz : Wd := (0, 1, 1)
theorem wz_rep : Rep wz pzero := Rep.none
theorem Tryd.builtOne (x y : Nat) : Tryd.prog.built 76 [(0, .agg ((lims x).map nv).toArray), (1, .agg ((lims y).map nv).toArray), (2, .agg #[.int .u64 1, .int .u64 0, .int .u64 0, .int .u64 0])] = some ((limsL [x, y, 1]).map nv).toArray := by kernel_rfl
theorem Tryd.builtNone : Tryd.prog.built 76 [(0, .agg #[.int .u64 0, .int .u64 0, .int .u64 0, .int .u64 0]), (1, .agg #[.int .u64 1, .int .u64 0, .int .u64 0, .int .u64 0]), (2, .agg #[.int .u64 1, .int .u64 0, .int .u64 0, .int .u64 0])] = some ((limsL [0, 1, 1]).map nv).toArray := by kernel_rfl
theorem wd_new (w : World) : HoldsN (w.alloc (.cells #[.int .u64 0, .int .u64 0, .int .u64 0, .int .u64 0, .int .u64 0, .int .u64 0, .int .u64 0, .int .u64 0, .int .u64 0, .int .u64 0, .int .u64 0, .int .u64 0] 76)) 76 w.heap.size (limsL [0, 0, 0]) := holdsN_new w _ _ _ _ rfl (by kernel_rfl)
/-- A point's three numbers. -/
def wvals (t : Wd) : List Nat := [t.1.val, t.2.1.val, t.2.2.val]
theorem sum_wvals (s t : Wd) (w : World) : Calls Tryd.prog 69 #[.agg ((limsL (wvals s)).map nv).toArray, .agg ((limsL (wvals t)).map nv).toArray] w fun e w' => e = .returned (.agg ((limsL (wvals (wsum s t))).map nv).toArray) ∧ Below w.heap.size w w' :=
  rsum_el s.1 s.2.1 s.2.2 t.1 t.2.1 t.2.2 w
theorem rep_double {s : Wd} {p : Pt} {e j : Nat} (h : Rep s (Pt.times (e / 2 ^ (j + 1)) p).1) : Rep (wsum s s) (Pt.times (2 * (e / 2 ^ (j + 1))) p).1 := by
  have := Rep.sum (Pt.times (e / 2 ^ (j + 1)) p).2 (Pt.times (e / 2 ^ (j + 1)) p).2 h h
  rw [Nat.two_mul, Pt.times_add]
  exact this
theorem rep_more' {s o : Wd} {p : Pt} {m : Nat} (h : Rep s (Pt.times m p).1) (ho : Rep o p.1) : Rep (wsum s o) (Pt.times (m + 1) p).1 := by
  have := Rep.sum (Pt.times m p).2 p.2 h ho
  rw [Pt.times_succ]
  exact this
theorem half_bit (e j : Nat) : e / 2 ^ j = 2 * (e / 2 ^ (j + 1)) + e / 2 ^ j % 2 := by
  rw [Nat.pow_succ, ← Nat.div_div_eq_div_mul]
  omega
theorem load_wd (w : World) (g : Nat) (t : Wd) (h : HoldsN w 76 g (limsL (wvals t))) : w.rangeAt g 0 ((lims t.1.val).map nv) ∧ w.rangeAt g 4 ((lims t.2.1.val).map nv) ∧ w.rangeAt g 8 ((lims t.2.2.val).map nv) :=
  ⟨range_at h 0 (by simp [wvals]), range_at h 1 (by simp [wvals]), range_at h 2 (by simp [wvals])⟩
theorem wvals_len (t : Wd) : (limsL (wvals t)).length = 12 := by rw [limsL_length]; rfl

section
attribute [local go_sem ↓] load_fe
set_option maxRecDepth 100000 in
set_option maxHeartbeats 8000000 in
theorem rMul_vals (k x y : Nat) (w : World) (hk : k < big) (hx : x < big) (hy : y < big) :
    Calls Tryd.prog 41 #[fev k, ptv x y] w fun e w' => e = .returned (.agg ((limsL [(vals (Pt.times (toS k).val (qOf x y)).1).1, (vals (Pt.times (toS k).val (qOf x y)).1).2]).map nv).toArray) ∧ Below w.heap.size w w' := by
  obtain ⟨P, hP⟩ : ∃ P, P = qOf x y := ⟨_, rfl⟩
  obtain ⟨e, he⟩ : ∃ e, e = (toS k).val := ⟨_, rfl⟩
  have heb : e < big := by rw [he]; exact Sn.lt_big _
  have L1 : Hid (∀ W, Calls Tryd.prog 35 #[.agg ((limsL [x, y]).map nv).toArray] W fun e w' => e = .returned (.agg ((limsL [P.1.1.val, P.1.2.val]).map nv).toArray) ∧ Below W.heap.size W w') := Lib.hid fun W => by rw [hP]; exact rLeast_pt x y W hx hy
  have L2 : Hid (∀ W, Calls Tryd.prog 68 #[.agg ((lims k).map nv).toArray] W fun r w' => r = .returned (.agg ((lims e).map nv).toArray) ∧ Below W.heap.size W w') := Lib.hid fun W => by rw [he]; exact sLeast_any k W hk
  have SM : Hid (∀ (s t : Wd) W, Calls Tryd.prog 69 #[.agg ((limsL (wvals s)).map nv).toArray, .agg ((limsL (wvals t)).map nv).toArray] W fun e w' => e = .returned (.agg ((limsL (wvals (wsum s t))).map nv).toArray) ∧ Below W.heap.size W w') := Lib.hid fun s t W => sum_wvals s t W
  rw [← he, ← hP]
  clear hP he hk hx hy
  obtain ⟨res, hres⟩ : ∃ r, r = vals (Pt.times e P).1 := ⟨_, rfl⟩
  rw [← hres]
  have HR := Lib.hid hres
  clear hres
  have RZ : Rep wz (Pt.times (e / 2 ^ 256) P).1 := by
    rw [Nat.div_eq_of_lt (by rw [show (2 : Nat) ^ 256 = big by decide]; exact heb)]
    exact wz_rep
  have RO : Rep (P.1.1, P.1.2, 1) P.1 := Rep.one P.1
  obtain ⟨px, hpx⟩ : ∃ a, a = P.1.1 := ⟨_, rfl⟩
  obtain ⟨py, hpy⟩ : ∃ a, a = P.1.2 := ⟨_, rfl⟩
  have hb1 := Lib.hid (Tryd.builtOne px.val py.val)
  have hb2 := Lib.hid Tryd.builtNone
  rw [← hpx, ← hpy] at L1 RO
  obtain ⟨o, ho⟩ : ∃ o : Wd, o = (px, py, 1) := ⟨_, rfl⟩
  rw [← ho] at RO
  have ho2 : limsL [px.val, py.val, 1] = limsL (wvals o) := by rw [ho]; rfl
  have hz2 : limsL [0, 1, 1] = limsL (wvals wz) := rfl
  rw [ho2] at hb1
  rw [hz2] at hb2
  clear ho2 hz2 ho hpx hpy heb
  generalize wz = z at *
  have RZ := Lib.hid RZ
  have RO := Lib.hid RO
  have F0 : HoldsN (((w.alloc (.cells ((lims k).map nv).toArray 28)).alloc (.cells ((limsL [x, y]).map nv).toArray 26)).alloc (.cells #[.int .u64 0, .int .u64 0, .int .u64 0, .int .u64 0, .int .u64 0, .int .u64 0, .int .u64 0, .int .u64 0] 26)) 28 w.heap.size (lims k) ∧ HoldsN (((w.alloc (.cells ((lims k).map nv).toArray 28)).alloc (.cells ((limsL [x, y]).map nv).toArray 26)).alloc (.cells #[.int .u64 0, .int .u64 0, .int .u64 0, .int .u64 0, .int .u64 0, .int .u64 0, .int .u64 0, .int .u64 0] 26)) 26 (w.heap.size + 1) (limsL [x, y]) ∧ HoldsN (((w.alloc (.cells ((lims k).map nv).toArray 28)).alloc (.cells ((limsL [x, y]).map nv).toArray 26)).alloc (.cells #[.int .u64 0, .int .u64 0, .int .u64 0, .int .u64 0, .int .u64 0, .int .u64 0, .int .u64 0, .int .u64 0] 26)) 26 (w.heap.size + 1 + 1) (limsL [0, 0]) ∧ Below w.heap.size w (((w.alloc (.cells ((lims k).map nv).toArray 28)).alloc (.cells ((limsL [x, y]).map nv).toArray 26)).alloc (.cells #[.int .u64 0, .int .u64 0, .int .u64 0, .int .u64 0, .int .u64 0, .int .u64 0, .int .u64 0, .int .u64 0] 26)) := by
    have e1 : (w.alloc (.cells ((lims k).map nv).toArray 28)).heap.size = w.heap.size + 1 := World.size_alloc ..
    have e2 : ((w.alloc (.cells ((lims k).map nv).toArray 28)).alloc (.cells ((limsL [x, y]).map nv).toArray 26)).heap.size = w.heap.size + 1 + 1 := by rw [World.size_alloc, e1]
    exact ⟨((holdsN_new w _ _ _ _ rfl rfl).alloc _).alloc _, (holdsN_new _ _ _ _ _ e1.symm rfl).alloc _, holdsN_new _ _ _ _ _ e2.symm (by kernel_rfl), (((Below.refl _ w).alloc (Nat.le_refl _) _).alloc (by omega) _).alloc (by omega) _⟩
  obtain ⟨hK, hA, hR, hb⟩ := F0
  rw [fev_eq]
  unfold ptv
  go_enter Tryd.func41, Tryd.ntmps41
  go_upto_region 1 with (fail)
  generalize ((w.alloc (.cells ((lims k).map nv).toArray 28)).alloc (.cells ((limsL [x, y]).map nv).toArray 26)).alloc (.cells #[.int .u64 0, .int .u64 0, .int .u64 0, .int .u64 0, .int .u64 0, .int .u64 0, .int .u64 0, .int .u64 0] 26) = wv at *
  go_upto_region 3 with (first
    | (with_reducible refine wpList_load_pt rfl 26 (.tmp 3) rfl (w.heap.size + 1) rfl (limsL [x, y]) 8 hA rfl Tryd.underlying26 Tryd.infoPt ?_)
    | (go_at_call 35
       with_reducible refine (L1.out _).mono ?_
       rintro e w2 ⟨rfl, hb2⟩
       have hK2 := hK.keep hb2 hK.lt
       have hA2 := hA.keep hb2 hA.lt
       have hR2 := hR.keep hb2 hR.lt
       have b2 := hb.trans (hb2.mono hb.size))
    | (with_reducible refine wpList_store_n rfl 26 (.tmp 3) (.tmp 10) rfl (w.heap.size + 1) (limsL [px.val, py.val]) 8 rfl rfl rfl (limsL [x, y]) hA2 Tryd.infoPt rfl w.heap.size w b2 (by omega) ?_
       intro w3 hA3 o3 s3 b3
       have hK3 := hK2.oth o3 (by omega)
       have hR3 := hR2.oth o3 (by omega)
       clear s3)
    | (with_reducible refine wpList_load_n rfl 28 (.tmp 2) rfl w.heap.size rfl (lims k) 4 hK3 rfl Tryd.underlying28 Tryd.infoSc ?_)
    | (go_at_call 68
       with_reducible refine (L2.out _).mono ?_
       rintro r w4 ⟨rfl, hb4⟩
       have hK4 := hK3.keep hb4 hK3.lt
       have hA4 := hA3.keep hb4 hA3.lt
       have hR4 := hR3.keep hb4 hR3.lt
       have b4 := b3.trans (hb4.mono b3.size))
    | (with_reducible refine wpList_store_n rfl 28 (.tmp 2) (.tmp 12) rfl w.heap.size (lims e) 4 rfl rfl rfl (lims k) hK4 Tryd.infoSc rfl w.heap.size w b4 (Nat.le_refl _) ?_
       intro w5 hK5 o5 s5 b5
       have hA5 := hA4.oth o5 (by omega)
       have hR5 := hR4.oth o5 (by omega)
       clear s5)
    | fail)
  clear hK hA hR hb hK2 hA2 hR2 b2 hA3 hK3 hR3 hb2 o3 b3 hb4 hK4 hA4 hR4 b4 o5 L1 L2
  have hx5 : w5.rangeAt (w.heap.size + 1) 0 ((lims px.val).map nv) := range_at hA5 0 (by simp)
  have hy5 : w5.rangeAt (w.heap.size + 1) 4 ((lims py.val).map nv) := range_at hA5 1 (by simp)
  have z5 := wd_new w5
  have b5a := b5.alloc b5.size (.cells #[.int .u64 0, .int .u64 0, .int .u64 0, .int .u64 0, .int .u64 0, .int .u64 0, .int .u64 0, .int .u64 0, .int .u64 0, .int .u64 0, .int .u64 0, .int .u64 0] 76)
  have hK5a := hK5.alloc (.cells #[.int .u64 0, .int .u64 0, .int .u64 0, .int .u64 0, .int .u64 0, .int .u64 0, .int .u64 0, .int .u64 0, .int .u64 0, .int .u64 0, .int .u64 0, .int .u64 0] 76)
  have hR5a := hR5.alloc (.cells #[.int .u64 0, .int .u64 0, .int .u64 0, .int .u64 0, .int .u64 0, .int .u64 0, .int .u64 0, .int .u64 0, .int .u64 0, .int .u64 0, .int .u64 0, .int .u64 0] 76)
  have l5 := hR5.lt
  go_upto_region 4 with (first
    | (with_reducible refine wpList_load_mid rfl 24 (.tmp 13) rfl (w.heap.size + 1) 0 rfl ((lims px.val).map nv) _ hx5 Tryd.underlying24 rfl (by rw [Tryd.infoFe, List.length_map, lims_length]) ?_)
    | (with_reducible refine wpList_load_mid rfl 24 (.tmp 15) rfl (w.heap.size + 1) 4 rfl ((lims py.val).map nv) _ hy5 Tryd.underlying24 rfl (by rw [Tryd.infoFe, List.length_map, lims_length]) ?_)
    | ((with_reducible refine wpList_buildTo rfl 76 #[(0, .tmp 14), (1, .tmp 16), (2, .tmp 17)] rfl (some 18) rfl ((limsL (wvals o)).map nv).toArray ?_ ?_)
       · with_unfolding_all exact hb1.out)
    | (with_reducible refine wpList_store_n rfl 76 (.tmp 5) (.tmp 18) rfl w5.heap.size (limsL (wvals o)) 12 rfl rfl (wvals_len o) (limsL [0, 0, 0]) (by with_unfolding_all exact z5) Tryd.infoWd rfl w.heap.size w (by with_unfolding_all exact b5a) b5.size ?_
       intro w6 hO6 o6 s6 b6
       have hK6 : HoldsN w6 28 w.heap.size (lims e) := (o6 _ (by omega)).trans (by with_unfolding_all exact hK5a)
       have hR6 : HoldsN w6 26 (w.heap.size + 1 + 1) (limsL [0, 0]) := (o6 _ (by omega)).trans (by with_unfolding_all exact hR5a)
       clear s6)
    | fail)
  clear hA5 hx5 hy5 z5 b5a hK5a hR5a hK5 hR5 b5 o6 hb1
  generalize w5.heap.size = g5 at *
  have z6 := wd_new w6
  have b6a := b6.alloc b6.size (.cells #[.int .u64 0, .int .u64 0, .int .u64 0, .int .u64 0, .int .u64 0, .int .u64 0, .int .u64 0, .int .u64 0, .int .u64 0, .int .u64 0, .int .u64 0, .int .u64 0] 76)
  have hK6a := hK6.alloc (.cells #[.int .u64 0, .int .u64 0, .int .u64 0, .int .u64 0, .int .u64 0, .int .u64 0, .int .u64 0, .int .u64 0, .int .u64 0, .int .u64 0, .int .u64 0, .int .u64 0] 76)
  have hR6a := hR6.alloc (.cells #[.int .u64 0, .int .u64 0, .int .u64 0, .int .u64 0, .int .u64 0, .int .u64 0, .int .u64 0, .int .u64 0, .int .u64 0, .int .u64 0, .int .u64 0, .int .u64 0] 76)
  have hO6a := hO6.alloc (.cells #[.int .u64 0, .int .u64 0, .int .u64 0, .int .u64 0, .int .u64 0, .int .u64 0, .int .u64 0, .int .u64 0, .int .u64 0, .int .u64 0, .int .u64 0, .int .u64 0] 76)
  have l6 := hR6.lt
  have l6o := hO6.lt
  go_upto_region 5 with (first
    | ((with_reducible refine wpList_buildTo rfl 76 #[(0, .tmp 19), (1, .tmp 20), (2, .tmp 21)] rfl (some 22) rfl ((limsL (wvals z)).map nv).toArray ?_ ?_)
       · with_unfolding_all exact hb2.out)
    | (with_reducible refine wpList_store_n rfl 76 (.tmp 6) (.tmp 22) rfl w6.heap.size (limsL (wvals z)) 12 rfl rfl (wvals_len z) (limsL [0, 0, 0]) (by with_unfolding_all exact z6) Tryd.infoWd rfl w.heap.size w (by with_unfolding_all exact b6a) b6.size ?_
       intro w7 hT7 o7 s7 b7
       have hK7 : HoldsN w7 28 w.heap.size (lims e) := (o7 _ (by omega)).trans (by with_unfolding_all exact hK6a)
       have hR7 : HoldsN w7 26 (w.heap.size + 1 + 1) (limsL [0, 0]) := (o7 _ (by omega)).trans (by with_unfolding_all exact hR6a)
       have hO7 : HoldsN w7 76 g5 (limsL (wvals o)) := (o7 _ (by omega)).trans (by with_unfolding_all exact hO6a)
       clear s7)
    | fail)
  clear z6 b6a hK6a hR6a hO6a hK6 hR6 hO6 b6 o7 hb2
  have hg65 : g5 < w6.heap.size := l6o
  have hg62 : w.heap.size + 1 + 1 < w6.heap.size := l6
  generalize w6.heap.size = g6 at *
  clear l6 l6o l5
  go_wp2_with (fail)
  go_loopw [7] (fun v wr => ∃ (j : Nat) (t : Wd), j ≤ 256 ∧ v = .int .i64 ((j : Int) - 1) ∧ Hid (Rep t (Pt.times (e / 2 ^ j) P).1) ∧ HoldsN wr 76 g6 (limsL (wvals t)) ∧ HoldsN wr 76 g5 (limsL (wvals o)) ∧ HoldsN wr 28 w.heap.size (lims e) ∧ HoldsN wr 26 (w.heap.size + 1 + 1) (limsL [0, 0]) ∧ Below w.heap.size w wr)
    (fun v _ => (intOf v + 1).toNat)
  case atStart => exact ⟨256, z, Nat.le_refl _, rfl, RZ, hT7, hO7, hK7, hR7, b7⟩
  case round =>
    clear hT7 hO7 hK7 hR7 b7 RZ
    obtain ⟨k', t, hk, rfl, RT, hT, hO, hK, hR, hb⟩ := hrel
    rcases k' with _ | j
    · rw [show ((0 : Nat) : Int) - 1 = -1 from rfl]
      clear hO hK SM RO
      have hend : Hid (res.1 = (t.1 * finv t.2.2).val ∧ res.2 = (t.2.1 * finv t.2.2).val) := Lib.hid (by
        have := RT.out
        rw [Nat.pow_zero, Nat.div_one] at this
        rw [HR.out, ← this.point]
        exact vals_mk _ _)
      clear HR
      clear RT
      have IV : Hid (∀ W, Calls Tryd.prog 59 #[.agg ((lims t.2.2.val).map nv).toArray] W fun e w' => e = .returned (.agg ((lims (finv t.2.2).val).map nv).toArray) ∧ Below W.heap.size W w') := Lib.hid fun W => by
        have h := rInv_any t.2.2.val W (F.lt_big _)
        rw [toF_of] at h
        exact h
      have M1 : Hid (∀ W, Calls Tryd.prog 26 #[.agg ((lims t.1.val).map nv).toArray, .agg ((lims (finv t.2.2).val).map nv).toArray] W fun e w' => e = .returned (.agg ((lims (t.1 * finv t.2.2).val).map nv).toArray) ∧ Below W.heap.size W w') := Lib.hid fun W => by
        have h := rMul_any t.1.val (finv t.2.2).val W (F.lt_big _) (F.lt_big _)
        rw [toF_of, toF_of] at h
        exact h
      have M2 : Hid (∀ W, Calls Tryd.prog 26 #[.agg ((lims t.2.1.val).map nv).toArray, .agg ((lims (finv t.2.2).val).map nv).toArray] W fun e w' => e = .returned (.agg ((lims (t.2.1 * finv t.2.2).val).map nv).toArray) ∧ Below W.heap.size W w') := Lib.hid fun W => by
        have h := rMul_any t.2.1.val (finv t.2.2).val W (F.lt_big _) (F.lt_big _)
        rw [toF_of, toF_of] at h
        exact h
      obtain ⟨t1, t2, t3⟩ := t
      simp only at IV M1 M2
      have hend : Hid (res.1 = (t1 * finv t3).val ∧ res.2 = (t2 * finv t3).val) := hend
      have hT : HoldsN wr 76 g6 (limsL [t1.val, t2.val, t3.val]) := hT
      generalize finv t3 = n at *
      generalize t1 * n = r1 at *
      generalize t2 * n = r2 at *
      have hb3 := Lib.hid (Tryd.builtPt r1.val r2.val)
      have hz : wr.rangeAt g6 8 ((lims t3.val).map nv) := range_at hT 2 (by simp)
      go_upto_region 12 with (first
        | (with_reducible refine wpList_load_mid rfl 24 (.tmp 43) rfl g6 8 rfl ((lims t3.val).map nv) _ hz Tryd.underlying24 rfl (by rw [Tryd.infoFe, List.length_map, lims_length]) ?_)
        | (go_at_call 59
           with_reducible refine (IV.out _).mono ?_
           rintro e w2 ⟨rfl, hb2⟩
           have hT2 := hT.keep hb2 hT.lt
           have hR2 := hR.keep hb2 hR.lt
           have b2 := hb.trans (hb2.mono hb.size)
           have l2 := hT2.lt
           have z2 : HoldsN (w2.alloc (.cells #[.int .u64 0, .int .u64 0, .int .u64 0, .int .u64 0] 24)) 24 w2.heap.size (lims 0) := holdsN_new w2 _ _ _ _ rfl (by kernel_rfl)
           have b2a := b2.alloc b2.size (.cells #[.int .u64 0, .int .u64 0, .int .u64 0, .int .u64 0] 24)
           have hT2a := hT2.alloc (.cells #[.int .u64 0, .int .u64 0, .int .u64 0, .int .u64 0] 24)
           have hR2a := hR2.alloc (.cells #[.int .u64 0, .int .u64 0, .int .u64 0, .int .u64 0] 24))
        | (with_reducible refine wpList_store_n rfl 24 (.tmp 8) (.tmp 45) rfl w2.heap.size (lims n.val) 4 rfl rfl rfl (lims 0) (by with_unfolding_all exact z2) Tryd.infoFe rfl w.heap.size w (by with_unfolding_all exact b2a) b2.size ?_
           intro w3 hN3 o3 s3 b3
           have hT3 : HoldsN w3 76 g6 (limsL [t1.val, t2.val, t3.val]) := (o3 _ (by omega)).trans (by with_unfolding_all exact hT2a)
           have hR3 : HoldsN w3 26 (w.heap.size + 1 + 1) (limsL [0, 0]) := (o3 _ (by omega)).trans (by with_unfolding_all exact hR2a)
           clear s3)
        | fail)
      clear hT hR hb hz hT2 hR2 b2 z2 b2a hT2a hR2a hb2 o3 IV
      generalize w2.heap.size = g8 at *
      have F3 : Bs w w3.heap.size [(g8, 24, ((lims n.val).map nv).toArray), (g6, 76, ((limsL [t1.val, t2.val, t3.val]).map nv).toArray), (w.heap.size + 1 + 1, 26, ((limsL [0, 0]).map nv).toArray)] w3 := ⟨fun p hp => by
        simp only [List.mem_cons, List.not_mem_nil, or_false] at hp
        rcases hp with rfl | rfl | rfl
        · exact ⟨hN3.lt, hN3⟩
        · exact ⟨hT3.lt, hT3⟩
        · exact ⟨hR3.lt, hR3⟩, Nat.le_refl _, b3.size, b3⟩
      clear hN3 hT3 hR3 b3
      generalize w3.heap.size = D at *
      refine wp_region_lex 9 (fun _ => false) (fun _ _ _ => True) (Bs w D [(g8, 24, ((lims n.val).map nv).toArray), (g6, 76, ((limsL [t1.val, t2.val, t3.val]).map nv).toArray), (w.heap.size + 1 + 1, 26, ((limsL [0, 0]).map nv).toArray)]) (by kernel_rfl) (by kernel_rfl) F3.drew Bs.stay (fun _ _ _ _ _ _ => trivial) lex_none ?_
      simp only [List.take_succ_cons, List.take_zero, List.drop_succ_cons, List.drop_zero]
      refine lexW_value (v := ?_) (by rfl) (by rfl) (fun W hW => ?_) ?_
      rotate_left
      · skip; go_simp <;> with_reducible rfl
      simp only [Act.put, List.setIfInBounds_toArray, List.set_cons_zero, List.set_cons_succ]
      refine lexW_value (v := ?_) (by rfl) (by rfl) (fun W hW => ?_) ?_
      rotate_left
      · have l1 : (loadFe 24 ⟨g6, 0, none⟩).run Tryd.prog W = .ok (.agg ((lims t1.val).map nv).toArray) W := run_loadFe_at (hW.getN (g := g6) (l := limsL [t1.val, t2.val, t3.val]) (by repeat (first | exact List.mem_cons_self .. | refine List.mem_cons_of_mem _ ?_))) 0 (by simp); go_simp <;> with_reducible rfl
      simp only [Act.put, List.setIfInBounds_toArray, List.set_cons_zero, List.set_cons_succ]
      refine lexW_value (v := ?_) (by rfl) (by rfl) (fun W hW => ?_) ?_
      rotate_left
      · have l1 := run_loadFe (hW.getN (g := g8) (l := lims n.val) (by repeat (first | exact List.mem_cons_self .. | refine List.mem_cons_of_mem _ ?_))); go_simp <;> with_reducible rfl
      simp only [Act.put, List.setIfInBounds_toArray, List.set_cons_zero, List.set_cons_succ]
      refine' lexW_call (by rfl) (by rfl) (fun W hW => ?_) (fun W hW => ?_) ?_
      rotate_left 3
      · go_simp <;> first | with_reducible rfl | exact ⟨rfl, rfl⟩
      · with_reducible exact M1.out W
      simp only [Act.put, List.setIfInBounds_toArray, List.set_cons_zero, List.set_cons_succ]
      refine lexW_value (v := ?_) (by rfl) (by rfl) (fun W hW => ?_) ?_
      rotate_left
      · skip; go_simp <;> with_reducible rfl
      simp only [Act.put, List.setIfInBounds_toArray, List.set_cons_zero, List.set_cons_succ]
      refine lexW_value (v := ?_) (by rfl) (by rfl) (fun W hW => ?_) ?_
      rotate_left
      · have l1 : (loadFe 24 ⟨g6, 4, none⟩).run Tryd.prog W = .ok (.agg ((lims t2.val).map nv).toArray) W := run_loadFe_at (hW.getN (g := g6) (l := limsL [t1.val, t2.val, t3.val]) (by repeat (first | exact List.mem_cons_self .. | refine List.mem_cons_of_mem _ ?_))) 1 (by simp); go_simp <;> with_reducible rfl
      simp only [Act.put, List.setIfInBounds_toArray, List.set_cons_zero, List.set_cons_succ]
      refine lexW_value (v := ?_) (by rfl) (by rfl) (fun W hW => ?_) ?_
      rotate_left
      · have l1 := run_loadFe (hW.getN (g := g8) (l := lims n.val) (by repeat (first | exact List.mem_cons_self .. | refine List.mem_cons_of_mem _ ?_))); go_simp <;> with_reducible rfl
      simp only [Act.put, List.setIfInBounds_toArray, List.set_cons_zero, List.set_cons_succ]
      refine' lexW_call (by rfl) (by rfl) (fun W hW => ?_) (fun W hW => ?_) ?_
      rotate_left 3
      · go_simp <;> first | with_reducible rfl | exact ⟨rfl, rfl⟩
      · with_reducible exact M2.out W
      simp only [Act.put, List.setIfInBounds_toArray, List.set_cons_zero, List.set_cons_succ]
      refine lexW_value (v := .agg ((limsL [r1.val, r2.val]).map nv).toArray) (by rfl) (by rfl) (fun W hW => exec_build _ _ 26 #[(0, .tmp 49), (1, .tmp 53)] rfl _ (by with_unfolding_all exact hb3.out) W) ?_
      simp only [Act.put, List.setIfInBounds_toArray, List.set_cons_zero, List.set_cons_succ]
      refine lexW_nil (fun b8 W8 F8 E8 => ?_)
      obtain rfl := lexEnd_none E8
      have hR8 := F8.getN (g := w.heap.size + 1 + 1) (l := limsL [0, 0]) (by repeat (first | exact List.mem_cons_self .. | refine List.mem_cons_of_mem _ ?_))
      go_wp2_with (with_reducible refine wpList_store_n rfl 26 (.tmp 4) (.tmp 54) rfl (w.heap.size + 1 + 1) (limsL [r1.val, r2.val]) 8 rfl rfl rfl (limsL [0, 0]) hR8 Tryd.infoPt rfl w.heap.size w F8.below (by omega) ?_; intro w9 Hg _ _ b9)
      exact bodyPost_ret (results_cell_row rfl _ _ _ _ _ _ _ rfl Hg Tryd.underlying26 rfl (by rw [Tryd.infoPt]; rfl)) rfl ⟨by rw [hend.out.1, hend.out.2], b9⟩
    · rw [show ((j + 1 : Nat) : Int) - 1 = (j : Int) by omega]
      have hj : j < 256 := by omega
      have cE := fun W (h : HoldsN W 28 w.heap.size (lims e)) => h.cell (j := j / 64) (by rw [lims_length]; omega)
      rw [lims_get _ (by omega)] at cE
      have hbit := bit_limb e j
      have hhalf := half_bit e j
      have eq4 : (j : Int).tdiv 64 = ((j / 64 : Nat) : Int) := by rw [Int.tdiv_eq_ediv_of_nonneg (by omega)]; omega
      have em4 : (j : Int).tmod 64 = ((j % 64 : Nat) : Int) := by rw [Int.tmod_eq_emod_of_nonneg (by omega)]; omega
      have lq : ((j / 64 : Nat) : Int) < 4 := by omega
      have hr4 : j % 64 < 64 := by omega
      have CE := Lib.hid cE
      clear cE
      have RD : Hid (Rep (wsum t t) (Pt.times (2 * (e / 2 ^ (j + 1))) P).1) := Lib.hid (rep_double RT.out)
      have hx64 := limb_lt e (j / 64)
      generalize limb e (j / 64) = x at *
      generalize j / 64 = qq at *
      generalize j % 64 = rr at *
      have lr : (rr : Int) < 64 := by omega
      have wr2 : IntKind.u64.wrap (rr : Int) = rr := by rw [IntKind.wrap_u64]; omega
      have hv : ((x : Int) / 2 ^ rr).tmod 2 = ((e / 2 ^ j % 2 : Nat) : Int) := by
        rw [show (2 : Int) ^ rr = ((2 ^ rr : Nat) : Int) from (Int.natCast_pow 2 _).symm, ← Int.natCast_ediv, Int.tmod_eq_emod_of_nonneg (Int.natCast_nonneg _), ← hbit]; rfl
      clear hbit RT
      have hlt2 : e / 2 ^ j % 2 < 2 := Nat.mod_lt _ (by omega)
      have SM1 := Lib.hid (SM.out t t)
      have Hhalf := Lib.hid hhalf
      clear hhalf
      by_cases hb1 : e / 2 ^ j % 2 = 1
      · have RM : Hid (Rep (wsum (wsum t t) o) (Pt.times (e / 2 ^ j) P).1) := Lib.hid (by
          rw [Hhalf.out, hb1]
          exact rep_more' RD.out RO.out)
        have SM2 := Lib.hid (SM.out (wsum t t) o)
        rw [hb1] at hv
        clear RD RO SM hb1 Hhalf hlt2 HR
        generalize wsum (wsum t t) o = t2 at *
        generalize wsum t t = t1 at *
        go_wp2_with (first
          | (with_reducible refine wpList_load_pt rfl 76 (.tmp 6) rfl g6 rfl (limsL (wvals t)) 12 hT (wvals_len t) Tryd.underlying76 Tryd.infoWd ?_)
          | (go_at_call 69
             with_reducible refine (SM1.out _).mono ?_
             rintro e w3 ⟨rfl, hb3⟩
             have hT3 := hT.keep hb3 hT.lt
             have hO3 := hO.keep hb3 hO.lt
             have hK3 := hK.keep hb3 hK.lt
             have hR3 := hR.keep hb3 hR.lt
             have b3 := hb.trans (hb3.mono hb.size))
          | (with_reducible refine wpList_store_n rfl 76 (.tmp 6) (.tmp 29) rfl g6 (limsL (wvals t1)) 12 rfl rfl (wvals_len t1) (limsL (wvals t)) hT3 Tryd.infoWd (wvals_len t) w.heap.size w b3 (by omega) ?_
             intro w4 hT4 o4 s4 b4
             have hO4 := hO3.oth o4 (by omega)
             have hK4 := hK3.oth o4 (by omega)
             have hR4 := hR3.oth o4 (by omega)
             have cE4 := CE.out w4 hK4
             clear s4)
          | (with_reducible refine wpList_load_pt rfl 76 (.tmp 6) rfl g6 rfl (limsL (wvals t1)) 12 hT4 (wvals_len t1) Tryd.underlying76 Tryd.infoWd ?_)
          | (with_reducible refine wpList_load_pt rfl 76 (.tmp 5) rfl g5 rfl (limsL (wvals o)) 12 hO4 (wvals_len o) Tryd.underlying76 Tryd.infoWd ?_)
          | (go_at_call 69
             with_reducible refine (SM2.out _).mono ?_
             rintro e w5 ⟨rfl, hb5⟩
             have hT5 := hT4.keep hb5 hT4.lt
             have hO5 := hO4.keep hb5 hO4.lt
             have hK5 := hK4.keep hb5 hK4.lt
             have hR5 := hR4.keep hb5 hR4.lt
             have b5 := b4.trans (hb5.mono b4.size))
          | (with_reducible refine wpList_store_n rfl 76 (.tmp 6) (.tmp 42) rfl g6 (limsL (wvals t2)) 12 rfl rfl (wvals_len t2) (limsL (wvals t1)) hT5 Tryd.infoWd (wvals_len t1) w.heap.size w b5 (by omega) ?_
             intro w6 hT6 o6 s6 b6
             have hO6 := hO5.oth o6 (by omega)
             have hK6 := hK5.oth o6 (by omega)
             have hR6 := hR5.oth o6 (by omega)
             clear s6)
          | fail)
        go_roundw
        case rel => exact ⟨j, t2, by omega, by go_num, RM, hT6, hO6, hK6, hR6, b6⟩
        case measure => simp [intOf]
      · have hb0 : e / 2 ^ j % 2 = 0 := by omega
        have RM : Hid (Rep (wsum t t) (Pt.times (e / 2 ^ j) P).1) := Lib.hid (by
          rw [Hhalf.out, hb0, Nat.add_zero]
          exact RD.out)
        rw [hb0] at hv
        clear RD RO SM hb1 hb0 Hhalf hlt2 HR
        generalize wsum t t = t1 at *
        go_wp2_with (first
          | (with_reducible refine wpList_load_pt rfl 76 (.tmp 6) rfl g6 rfl (limsL (wvals t)) 12 hT (wvals_len t) Tryd.underlying76 Tryd.infoWd ?_)
          | (go_at_call 69
             with_reducible refine (SM1.out _).mono ?_
             rintro e w3 ⟨rfl, hb3⟩
             have hT3 := hT.keep hb3 hT.lt
             have hO3 := hO.keep hb3 hO.lt
             have hK3 := hK.keep hb3 hK.lt
             have hR3 := hR.keep hb3 hR.lt
             have b3 := hb.trans (hb3.mono hb.size))
          | (with_reducible refine wpList_store_n rfl 76 (.tmp 6) (.tmp 29) rfl g6 (limsL (wvals t1)) 12 rfl rfl (wvals_len t1) (limsL (wvals t)) hT3 Tryd.infoWd (wvals_len t) w.heap.size w b3 (by omega) ?_
             intro w4 hT4 o4 s4 b4
             have hO4 := hO3.oth o4 (by omega)
             have hK4 := hK3.oth o4 (by omega)
             have hR4 := hR3.oth o4 (by omega)
             have cE4 := CE.out w4 hK4
             clear s4)
          | fail)
        go_roundw
        case rel => exact ⟨j, t1, by omega, by go_num, RM, hT4, hO4, hK4, hR4, b4⟩
        case measure => simp [intOf]
theorem rMul_pt (k x y : Nat) (w : World) (hk : k < big) (hx : x < big) (hy : y < big) :
    Calls Tryd.prog 41 #[fev k, ptv x y] w (GaveQ w (Pt.times (toS k).val (qOf x y)).1) := (rMul_vals k x y w hk hx hy).mono fun _ _ h => gaveQ_of h
end
end Go.Proofs.YtlfkohanfeejfaaDoor
