/-
  The program's curve: which points are one; sums; eight of a point.
  The program's curve: a point so many times.
  What the laws want of the program's curve, and of field and scalar.
-/
import Derived.Laws.BitsAllLaws
import Derived.Test.YtlfkohanfeejfaaDoorMaw
import Derived.Test.YtlfkohanfeejfaaDoorMba
namespace Go.Proofs.YtlfkohanfeejfaaDoor
open Go.RowKit
namespace Crv

section
attribute [local go_sem ↓] load_fe

/-! Points of three and of four numbers, as they lie. -/
def qvals (q : Qd) : List Nat := [q.1.val, q.2.1.val, q.2.2.1.val, q.2.2.2.val]
abbrev GaveV (W : World) (l : List Nat) (e : Ending) (w' : World) : Prop := e = .returned (.agg ((limsL l).map nv).toArray) ∧ Below W.heap.size W w'
theorem qvals_len (q : Qd) : (limsL (qvals q)).length = 16 := by rw [limsL_length]; rfl
theorem spread_q (x y : Nat) (W : World) (hx : x < big) (hy : y < big) (L : Laid W) : Calls Tryd.prog 52 #[.agg ((limsL [x, y]).map nv).toArray] W (GaveV W (qvals (qspread (pOf x y)))) := spread_any x y W hx hy L
theorem plus_q (s t : Qd) (W : World) (L : Laid W) : Calls Tryd.prog 53 #[.agg ((limsL (qvals s)).map nv).toArray, .agg ((limsL (qvals t)).map nv).toArray] W (GaveV W (qvals (qplus s t))) := plus_el s.1 s.2.1 s.2.2.1 s.2.2.2 t.1 t.2.1 t.2.2.1 t.2.2.2 W L
theorem twice_q (t : Wd) (W : World) (L : Laid W) : Calls Tryd.prog 65 #[.agg ((limsL (wvals t)).map nv).toArray] W (GaveV W (qvals (qtwice t))) := twice_el t.1 t.2.1 t.2.2 W L
theorem point_q {t : Wd} {p : F × F} (h : Rep t p) (W : World) : Calls Tryd.prog 54 #[.agg ((limsL (wvals t)).map nv).toArray] W (GaveV W [(vals p).1, (vals p).2]) := by
  have h2 := point_el t.1 t.2.1 t.2.2 W
  rw [h.point] at h2
  exact h2

/-! The first three of four numbers, taken out of it. -/
theorem Tryd.fieldsQd : (Tryd.prog.fieldsOf 65).toList.map (fun f => (f.type, f.offset)) = [(63, 0), (24, 12)] := by kernel_rfl
theorem Tryd.structQd : Tryd.prog.underlying 65 = some (.struct (Tryd.prog.fieldsOf 65)) := by kernel_rfl
theorem run_part_tr (xs : Array Value) (off : Nat) (l : List Nat) (w : World) (h : xs.extract off (off + 12) = ((limsL l).map nv).toArray) : (part 63 xs off).run Tryd.prog w = .ok (.agg ((limsL l).map nv).toArray) w := by
  simp [part, isAgg, run_underlying Tryd.underlying63, go_sem]
  exact h
theorem run_field_w (q : Qd) (W : World) : (Instr.field 65 (.agg ((limsL (qvals q)).map nv).toArray) 0).run Tryd.prog W = .ok (.agg ((limsL (wvals q.w)).map nv).toArray) W := by
  have h := Tryd.fieldsQd
  obtain ⟨f, l1, hl, hf, h⟩ := List.map_eq_cons_iff.1 h
  obtain ⟨g, l2, hl2, hg, h⟩ := List.map_eq_cons_iff.1 h
  obtain rfl := List.map_eq_nil_iff.1 h
  subst hl2
  simp only [Prod.mk.injEq] at hf hg
  have hfs : Tryd.prog.fieldsOf 65 = #[f, g] := by rw [← hl]
  have py : (((limsL (qvals q)).map nv).toArray).extract 0 (0 + 12) = ((limsL (wvals q.w)).map nv).toArray := rfl
  have k := run_part_tr _ 0 (wvals q.w) W py
  have hu : Tryd.prog.underlying 65 = some (.struct #[f, g]) := by rw [Tryd.structQd, hfs]
  simp [Instr.field, asAgg, run_underlying hu, hf.1, hf.2, k]
theorem qplus_rep (p q : F × F) (hp : On p) (hq : On q) : Rep (qplus (qspread p) (qspread q)).w (padd p q) := ((qspread_rep p).plus hp hq (qspread_rep q)).rep
theorem qclear_rep (p : F × F) (hp : On p) : Rep (qtwice (qtwice (qtwice (qspread p).w).w).w).w (dbl (dbl (dbl p))) :=
  (Rep.twice (on_dbl (on_dbl hp)) (Rep.twice (on_dbl hp) (Rep.twice hp (qspread_rep p).rep).rep).rep).rep
end
section
attribute [local go_sem ↓] load_pt

set_option maxRecDepth 100000 in
set_option maxHeartbeats 4000000 in
theorem Same_any (x1 y1 x2 y2 : Nat) (w : World) (hx1 : x1 < big) (hy1 : y1 < big) (hx2 : x2 < big) (hy2 : y2 < big) (L0 : Laid w) :
    Calls Tryd.prog 17 #[ptv x1 y1, ptv x2 y2] w fun e w' => e = .returned (.bool (decide (pOf x1 y1 = pOf x2 y2))) ∧ Below w.heap.size w w' := by
  have LK := L0.hid
  obtain ⟨p, hp⟩ : ∃ p, p = pOf x1 y1 := ⟨_, rfl⟩
  obtain ⟨q, hq⟩ : ∃ q, q = pOf x2 y2 := ⟨_, rfl⟩
  have L1 : Hid (∀ W, Below w.heap.size w W → Calls Tryd.prog 48 #[.agg ((limsL [x1, y1]).map nv).toArray] W fun e w' => e = .returned (.agg ((limsL [p.1.val, p.2.val]).map nv).toArray) ∧ Below W.heap.size W w') := Lib.hid fun W hb => by rw [hp]; exact taken_any x1 y1 W hx1 hy1 (LK.out W hb)
  have L2 : Hid (∀ W, Below w.heap.size w W → Calls Tryd.prog 48 #[.agg ((limsL [x2, y2]).map nv).toArray] W fun e w' => e = .returned (.agg ((limsL [q.1.val, q.2.val]).map nv).toArray) ∧ Below W.heap.size W w') := Lib.hid fun W hb => by rw [hq]; exact taken_any x2 y2 W hx2 hy2 (LK.out W hb)
  have EQ := fun W => run_eql_P p q W
  have GU := fun W => run_guard_pt (.tmp 6) (.tmp 8) ((limsL [p.1.val, p.2.val]).map nv).toArray ((limsL [q.1.val, q.2.val]).map nv).toArray W
  rw [← hp, ← hq]
  clear hp hq hx1 hy1 hx2 hy2
  generalize decide (p = q) = bl at *
  unfold ptv
  have F0 := pt_two w x1 y1 x2 y2
  go_enter Tryd.func17, Tryd.ntmps17
  go_upto_region 1 with (fail)
  generalize (w.alloc (.cells ((limsL [x1, y1]).map nv).toArray 26)).alloc (.cells ((limsL [x2, y2]).map nv).toArray 26) = wv at *
  refine wp_region_lex 5 (fun _ => false) (fun _ _ _ => True) (Bs w (w.heap.size + 1 + 1) [(w.heap.size + 1, 26, ((limsL [x2, y2]).map nv).toArray), (w.heap.size, 26, ((limsL [x1, y1]).map nv).toArray)]) (by kernel_rfl) (by kernel_rfl) F0.drew Bs.stay (fun _ _ _ _ _ _ => trivial) lex_none ?_
  simp only [List.take_succ_cons, List.take_zero, List.drop_succ_cons, List.drop_zero]
  refine lexW_value (v := ?_) (by rfl) (by rfl) (fun W hW => ?_) ?_
  rotate_left
  · have l1 := run_loadPt (hW.getN (g := w.heap.size) (l := limsL [x1, y1]) (by simp)); go_simp <;> with_reducible rfl
  simp only [Act.put, List.setIfInBounds_toArray, List.set_cons_zero, List.set_cons_succ]
  refine' lexW_call (by rfl) (by rfl) (fun W hW => ?_) (fun W hW => ?_) ?_
  rotate_left 3
  · go_simp <;> first | with_reducible rfl | exact ⟨rfl, rfl⟩
  · with_reducible exact L1.out W hW.below
  simp only [Act.put, List.setIfInBounds_toArray, List.set_cons_zero, List.set_cons_succ]
  refine lexW_value (v := ?_) (by rfl) (by rfl) (fun W hW => ?_) ?_
  rotate_left
  · have l1 := run_loadPt (hW.getN (g := w.heap.size + 1) (l := limsL [x2, y2]) (by simp)); go_simp <;> with_reducible rfl
  simp only [Act.put, List.setIfInBounds_toArray, List.set_cons_zero, List.set_cons_succ]
  refine' lexW_call (by rfl) (by rfl) (fun W hW => ?_) (fun W hW => ?_) ?_
  rotate_left 3
  · go_simp <;> first | with_reducible rfl | exact ⟨rfl, rfl⟩
  · with_reducible exact L2.out W hW.below
  simp only [Act.put, List.setIfInBounds_toArray, List.set_cons_zero, List.set_cons_succ]
  refine lexW_value (v := ?_) (by rfl) (by rfl) (fun W hW => ?_) ?_
  rotate_left
  · skip; go_simp <;> with_reducible rfl
  simp only [Act.put, List.setIfInBounds_toArray, List.set_cons_zero, List.set_cons_succ]
  refine lexW_nil (fun b W hW hE => ?_)
  obtain rfl := lexEnd_none hE
  go_wp2
  go_ret
  exact ⟨rfl, hW.below⟩

set_option maxRecDepth 100000 in
set_option maxHeartbeats 4000000 in
theorem Add_vals (x1 y1 x2 y2 : Nat) (w : World) (hx1 : x1 < big) (hy1 : y1 < big) (hx2 : x2 < big) (hy2 : y2 < big) (L0 : Laid w) :
    Calls Tryd.prog 21 #[ptv x1 y1, ptv x2 y2] w (GaveV w [(vals (padd (pOf x1 y1) (pOf x2 y2))).1, (vals (padd (pOf x1 y1) (pOf x2 y2))).2]) := by
  have LK := L0.hid
  obtain ⟨s, hs⟩ : ∃ s, s = qspread (pOf x1 y1) := ⟨_, rfl⟩
  obtain ⟨t, ht⟩ : ∃ t, t = qspread (pOf x2 y2) := ⟨_, rfl⟩
  obtain ⟨u, hu⟩ : ∃ u, u = qplus s t := ⟨_, rfl⟩
  obtain ⟨r, hr⟩ : ∃ r, r = vals (padd (pOf x1 y1) (pOf x2 y2)) := ⟨_, rfl⟩
  have S1 : Hid (∀ W, Below w.heap.size w W → Calls Tryd.prog 52 #[.agg ((limsL [x1, y1]).map nv).toArray] W (GaveV W (qvals s))) := Lib.hid fun W hb => by rw [hs]; exact spread_q x1 y1 W hx1 hy1 (LK.out W hb)
  have S2 : Hid (∀ W, Below w.heap.size w W → Calls Tryd.prog 52 #[.agg ((limsL [x2, y2]).map nv).toArray] W (GaveV W (qvals t))) := Lib.hid fun W hb => by rw [ht]; exact spread_q x2 y2 W hx2 hy2 (LK.out W hb)
  have S3 : Hid (∀ W, Below w.heap.size w W → Calls Tryd.prog 53 #[.agg ((limsL (qvals s)).map nv).toArray, .agg ((limsL (qvals t)).map nv).toArray] W (GaveV W (qvals u))) := Lib.hid fun W hb => by rw [hu]; exact plus_q s t W (LK.out W hb)
  have fl := fun W => run_field_w u W
  have S4 : Hid (∀ W, Calls Tryd.prog 54 #[.agg ((limsL (wvals u.w)).map nv).toArray] W (GaveV W [r.1, r.2])) := Lib.hid fun W => by
    rw [hr, hu, hs, ht]
    exact point_q (qplus_rep _ _ (on_pOf _ _) (on_pOf _ _)) W
  rw [← hr]
  clear hr hu hs ht L0 LK hx1 hy1 hx2 hy2
  unfold ptv
  generalize u.w = uw at *
  have F1 : Bs w (w.heap.size + 1 + 1 + 1) [(w.heap.size + 1 + 1, 26, ((limsL [0, 0]).map nv).toArray), (w.heap.size + 1, 26, ((limsL [x2, y2]).map nv).toArray), (w.heap.size, 26, ((limsL [x1, y1]).map nv).toArray)] (((w.alloc (.cells ((limsL [x1, y1]).map nv).toArray 26)).alloc (.cells ((limsL [x2, y2]).map nv).toArray 26)).alloc (.cells #[.int .u64 0, .int .u64 0, .int .u64 0, .int .u64 0, .int .u64 0, .int .u64 0, .int .u64 0, .int .u64 0] 26)) :=
    ((Bs.nil.alloc rfl).alloc (by simp only [World.size_alloc])).alloc (by simp only [World.size_alloc])
  go_enter Tryd.func21, Tryd.ntmps21
  go_upto_region 1 with (fail)
  generalize (((w.alloc (.cells ((limsL [x1, y1]).map nv).toArray 26)).alloc (.cells ((limsL [x2, y2]).map nv).toArray 26)).alloc (.cells #[.int .u64 0, .int .u64 0, .int .u64 0, .int .u64 0, .int .u64 0, .int .u64 0, .int .u64 0, .int .u64 0] 26)) = wv at *
  refine wp_region_lex 7 (fun _ => false) (fun _ _ _ => True) (Bs w (w.heap.size + 1 + 1 + 1) [(w.heap.size + 1 + 1, 26, ((limsL [0, 0]).map nv).toArray), (w.heap.size + 1, 26, ((limsL [x2, y2]).map nv).toArray), (w.heap.size, 26, ((limsL [x1, y1]).map nv).toArray)]) (by kernel_rfl) (by kernel_rfl) F1.drew Bs.stay (fun _ _ _ _ _ _ => trivial) lex_none ?_
  simp only [List.take_succ_cons, List.take_zero, List.drop_succ_cons, List.drop_zero]
  refine lexW_value (v := ?_) (by rfl) (by rfl) (fun W hW => ?_) ?_
  rotate_left
  · have l1 := run_loadPt (hW.getN (g := w.heap.size) (l := limsL [x1, y1]) (by repeat (first | exact List.mem_cons_self .. | refine List.mem_cons_of_mem _ ?_))); go_simp <;> with_reducible rfl
  simp only [Act.put, List.setIfInBounds_toArray, List.set_cons_zero, List.set_cons_succ]
  refine' lexW_call (by rfl) (by rfl) (fun W hW => ?_) (fun W hW => ?_) ?_
  rotate_left 3
  · go_simp <;> first | with_reducible rfl | exact ⟨rfl, rfl⟩
  · with_reducible exact S1.out W hW.below
  simp only [Act.put, List.setIfInBounds_toArray, List.set_cons_zero, List.set_cons_succ]
  refine lexW_value (v := ?_) (by rfl) (by rfl) (fun W hW => ?_) ?_
  rotate_left
  · have l1 := run_loadPt (hW.getN (g := w.heap.size + 1) (l := limsL [x2, y2]) (by repeat (first | exact List.mem_cons_self .. | refine List.mem_cons_of_mem _ ?_))); go_simp <;> with_reducible rfl
  simp only [Act.put, List.setIfInBounds_toArray, List.set_cons_zero, List.set_cons_succ]
  refine' lexW_call (by rfl) (by rfl) (fun W hW => ?_) (fun W hW => ?_) ?_
  rotate_left 3
  · go_simp <;> first | with_reducible rfl | exact ⟨rfl, rfl⟩
  · with_reducible exact S2.out W hW.below
  simp only [Act.put, List.setIfInBounds_toArray, List.set_cons_zero, List.set_cons_succ]
  refine' lexW_call (by rfl) (by rfl) (fun W hW => ?_) (fun W hW => ?_) ?_
  rotate_left 3
  · go_simp <;> first | with_reducible rfl | exact ⟨rfl, rfl⟩
  · with_reducible exact S3.out W hW.below
  simp only [Act.put, List.setIfInBounds_toArray, List.set_cons_zero, List.set_cons_succ]
  refine lexW_value (v := ?_) (by rfl) (by rfl) (fun W hW => ?_) ?_
  rotate_left
  · skip; go_simp <;> with_reducible rfl
  simp only [Act.put, List.setIfInBounds_toArray, List.set_cons_zero, List.set_cons_succ]
  refine' lexW_call (by rfl) (by rfl) (fun W hW => ?_) (fun W hW => ?_) ?_
  rotate_left 3
  · go_simp <;> first | with_reducible rfl | exact ⟨rfl, rfl⟩
  · with_reducible exact S4.out W
  simp only [Act.put, List.setIfInBounds_toArray, List.set_cons_zero, List.set_cons_succ]
  refine lexW_nil (fun b8 W8 F8x E8 => ?_)
  obtain rfl := lexEnd_none E8
  have hR := F8x.getN (g := w.heap.size + 1 + 1) (l := limsL [0, 0]) (by repeat (first | exact List.mem_cons_self .. | refine List.mem_cons_of_mem _ ?_))
  go_wp2_with (with_reducible refine wpList_store_n rfl 26 (.tmp 4) (.tmp 11) rfl (w.heap.size + 1 + 1) (limsL [r.1, r.2]) 8 rfl rfl rfl (limsL [0, 0]) hR Tryd.infoPt rfl w.heap.size w F8x.below (by omega) ?_; intro w9x Hg _ _ b9)
  exact bodyPost_ret (results_cell_row rfl _ _ _ _ _ _ _ rfl Hg Tryd.underlying26 rfl (by rw [Tryd.infoPt]; rfl)) rfl ⟨rfl, b9⟩
theorem Add_any (x1 y1 x2 y2 : Nat) (w : World) (hx1 : x1 < big) (hy1 : y1 < big) (hx2 : x2 < big) (hy2 : y2 < big) (L0 : Laid w) : Calls Tryd.prog 21 #[ptv x1 y1, ptv x2 y2] w (GaveQ w (padd (pOf x1 y1) (pOf x2 y2))) := (Add_vals x1 y1 x2 y2 w hx1 hy1 hx2 hy2 L0).mono fun _ _ h => gaveQ_of h

set_option maxRecDepth 100000 in
set_option maxHeartbeats 4000000 in
theorem Clear_vals (x y : Nat) (w : World) (hx : x < big) (hy : y < big) (L0 : Laid w) :
    Calls Tryd.prog 38 #[ptv x y] w (GaveV w [(vals (dbl (dbl (dbl (pOf x y))))).1, (vals (dbl (dbl (dbl (pOf x y))))).2]) := by
  have LK := L0.hid
  obtain ⟨s, hs⟩ : ∃ s, s = qspread (pOf x y) := ⟨_, rfl⟩
  obtain ⟨t, ht⟩ : ∃ t, t = qtwice s.w := ⟨_, rfl⟩
  obtain ⟨u, hu⟩ : ∃ u, u = qtwice t.w := ⟨_, rfl⟩
  obtain ⟨v, hv⟩ : ∃ v, v = qtwice u.w := ⟨_, rfl⟩
  obtain ⟨r, hr⟩ : ∃ r, r = vals (dbl (dbl (dbl (pOf x y)))) := ⟨_, rfl⟩
  have S1 : Hid (∀ W, Below w.heap.size w W → Calls Tryd.prog 52 #[.agg ((limsL [x, y]).map nv).toArray] W (GaveV W (qvals s))) := Lib.hid fun W hb => by rw [hs]; exact spread_q x y W hx hy (LK.out W hb)
  have S2 : Hid (∀ W, Below w.heap.size w W → Calls Tryd.prog 65 #[.agg ((limsL (wvals s.w)).map nv).toArray] W (GaveV W (qvals t))) := Lib.hid fun W hb => by rw [ht]; exact twice_q s.w W (LK.out W hb)
  have S3 : Hid (∀ W, Below w.heap.size w W → Calls Tryd.prog 65 #[.agg ((limsL (wvals t.w)).map nv).toArray] W (GaveV W (qvals u))) := Lib.hid fun W hb => by rw [hu]; exact twice_q t.w W (LK.out W hb)
  have S4 : Hid (∀ W, Below w.heap.size w W → Calls Tryd.prog 65 #[.agg ((limsL (wvals u.w)).map nv).toArray] W (GaveV W (qvals v))) := Lib.hid fun W hb => by rw [hv]; exact twice_q u.w W (LK.out W hb)
  have S5 : Hid (∀ W, Calls Tryd.prog 54 #[.agg ((limsL (wvals v.w)).map nv).toArray] W (GaveV W [r.1, r.2])) := Lib.hid fun W => by
    rw [hr, hv, hu, ht, hs]
    exact point_q (qclear_rep _ (on_pOf _ _)) W
  have fs := fun W => run_field_w s W
  have ft := fun W => run_field_w t W
  have fu := fun W => run_field_w u W
  have fv := fun W => run_field_w v W
  rw [← hr]
  clear hr hv hu hs ht L0 LK hx hy
  unfold ptv
  generalize s.w = sw at *
  generalize t.w = tw at *
  generalize u.w = uw at *
  generalize v.w = vw at *
  have F1 : Bs w (w.heap.size + 1 + 1) [(w.heap.size + 1, 26, ((limsL [0, 0]).map nv).toArray), (w.heap.size, 26, ((limsL [x, y]).map nv).toArray)] ((w.alloc (.cells ((limsL [x, y]).map nv).toArray 26)).alloc (.cells #[.int .u64 0, .int .u64 0, .int .u64 0, .int .u64 0, .int .u64 0, .int .u64 0, .int .u64 0, .int .u64 0] 26)) :=
    (Bs.nil.alloc rfl).alloc (by simp only [World.size_alloc])
  go_enter Tryd.func38, Tryd.ntmps38
  go_upto_region 1 with (fail)
  generalize ((w.alloc (.cells ((limsL [x, y]).map nv).toArray 26)).alloc (.cells #[.int .u64 0, .int .u64 0, .int .u64 0, .int .u64 0, .int .u64 0, .int .u64 0, .int .u64 0, .int .u64 0] 26)) = wv at *
  have hP := F1.getN (g := w.heap.size) (l := limsL [x, y]) (by repeat (first | exact List.mem_cons_self .. | refine List.mem_cons_of_mem _ ?_))
  go_wp2_with (first
    | (with_reducible refine wpList_load_pt rfl 26 (.tmp 1) rfl w.heap.size rfl (limsL [x, y]) 8 hP rfl Tryd.underlying26 Tryd.infoPt ?_)
    | (go_at_call 52
       with_reducible refine (S1.out _ F1.below).mono ?_
       rintro e w2 ⟨rfl, hb2⟩
       have F2 := Bs.stay _ _ F1 hb2)
    | (go_at_call 65
       with_reducible refine (S2.out _ F2.below).mono ?_
       rintro e w3 ⟨rfl, hb3⟩
       have F3 := Bs.stay _ _ F2 hb3)
    | (go_at_call 65
       with_reducible refine (S3.out _ F3.below).mono ?_
       rintro e w4 ⟨rfl, hb4⟩
       have F4 := Bs.stay _ _ F3 hb4)
    | (go_at_call 65
       with_reducible refine (S4.out _ F4.below).mono ?_
       rintro e w5 ⟨rfl, hb5⟩
       have F5 := Bs.stay _ _ F4 hb5)
    | (go_at_call 54
       with_reducible refine (S5.out _).mono ?_
       rintro e w6 ⟨rfl, hb6⟩
       have F6 := Bs.stay _ _ F5 hb6
       have hR := F6.getN (g := w.heap.size + 1) (l := limsL [0, 0]) (by repeat (first | exact List.mem_cons_self .. | refine List.mem_cons_of_mem _ ?_)))
    | (with_reducible refine wpList_store_n rfl 26 (.tmp 2) (.tmp 12) rfl (w.heap.size + 1) (limsL [r.1, r.2]) 8 rfl rfl rfl (limsL [0, 0]) hR Tryd.infoPt rfl w.heap.size w F6.below (by omega) ?_; intro w9x Hg _ _ b9)
    | fail)
  exact bodyPost_ret (results_cell_row rfl _ _ _ _ _ _ _ rfl Hg Tryd.underlying26 rfl (by rw [Tryd.infoPt]; rfl)) rfl ⟨rfl, b9⟩
theorem Clear_any (x y : Nat) (w : World) (hx : x < big) (hy : y < big) (L0 : Laid w) : Calls Tryd.prog 38 #[ptv x y] w (GaveQ w (dbl (dbl (dbl (pOf x y))))) := (Clear_vals x y w hx hy L0).mono fun _ _ h => gaveQ_of h
end
end Crv
end Go.Proofs.YtlfkohanfeejfaaDoor

namespace Go.Proofs.YtlfkohanfeejfaaDoor
open Go.RowKit
namespace Crv

/-! A number's bits, out of its bytes. -/
theorem pow_byte (k : Nat) : 256 ^ (k / 8) * 2 ^ (k % 8) = 2 ^ k := by
  rw [show (256 : Nat) = 2 ^ 8 from rfl, ← Nat.pow_mul, ← Nat.pow_add]
  congr 1
  omega
theorem mod_bit (m r : Nat) (hr : r < 8) : m % 256 / 2 ^ r % 2 = m / 2 ^ r % 2 := by
  match r, hr with
  | 0, _ => omega
  | 1, _ => omega
  | 2, _ => omega
  | 3, _ => omega
  | 4, _ => omega
  | 5, _ => omega
  | 6, _ => omega
  | 7, _ => omega
theorem byte_bit (e k : Nat) : (UInt8.ofNat (e / 256 ^ (k / 8))).toNat / 2 ^ (k % 8) % 2 = e / 2 ^ k % 2 := by
  rw [UInt8.toNat_ofNat', mod_bit _ _ (Nat.mod_lt _ (by omega)), Nat.div_div_eq_div_mul, pow_byte]
theorem leBytes_bit (e k : Nat) (h : k / 8 < (leBytes e 32).length) : ((leBytes e 32)[k / 8]).toNat / 2 ^ (k % 8) % 2 = e / 2 ^ k % 2 := by
  have e1 : (leBytes e 32)[k / 8] = UInt8.ofNat (e / 256 ^ (k / 8)) := by simp [leBytes]
  rw [e1, byte_bit]
theorem bit_byte (b r : Nat) (hb : b < 256) : bits .and .u8 ((b : Int) / 2 ^ r) 1 = ((b / 2 ^ r % 2 : Nat) : Int) := by
  have hd : b / 2 ^ r ≤ b := Nat.div_le_self _ _
  have h := u8_and_nat (b / 2 ^ r) 1 (by omega) (by omega)
  rw [Nat.and_one_is_mod] at h
  rw [show (2 : Int) ^ r = ((2 ^ r : Nat) : Int) from (Int.natCast_pow 2 _).symm, ← Int.natCast_ediv]
  exact h

/-! What the loop has reckoned. -/
theorem LL_bits : LL < 2 ^ 253 := by decide +kernel
theorem loop_start (x y : Nat) : Rep4 (qspread (pOf 0 1)) (Pt.times 0 (qOf x y)).1 ∧ Rep4 (qspread (pOf x y)) (Pt.times 1 (qOf x y)).1 := by
  refine ⟨?_, ?_⟩
  · have h : pOf 0 1 = pzero := by decide +kernel
    rw [h]
    exact qspread_rep pzero
  · rw [Pt.times_one]
    exact qspread_rep _
theorem qd_range {w : World} {ty g : Nat} {q : Qd} (h : HoldsN w ty g (limsL (qvals q))) : w.rangeAt g 0 ((limsL (wvals q.w)).map nv) := fun j v hj => by
  have e : limsL (qvals q) = limsL (wvals q.w) ++ lims q.2.2.2.val := by simp [qvals, wvals, limsL, Qd.w]
  have hl : j < (limsL (wvals q.w)).length := by
    have := (List.getElem?_eq_some_iff.1 hj).1
    rwa [List.length_map] at this
  rw [cell_of_row w g (0 + j) _ ty (0, 0) h, List.getElem?_toArray, List.getElem?_map, Nat.zero_add, e, List.getElem?_append_left hl, ← List.getElem?_map]
  exact hj
theorem run_alloc_qd (f : Operand → Value) (o : Oper) (w : World) (ho : o.op = .alloc 65) :
    (execOp f o).run Tryd.prog w = .ok (.value (.pointer (some ⟨w.heap.size, 0, none⟩))) (w.alloc (.cells #[.int .u64 0, .int .u64 0, .int .u64 0, .int .u64 0, .int .u64 0, .int .u64 0, .int .u64 0, .int .u64 0, .int .u64 0, .int .u64 0, .int .u64 0, .int .u64 0, .int .u64 0, .int .u64 0, .int .u64 0, .int .u64 0] 65)) := by
  obtain ⟨dst, op, type, pos, after, guard⟩ := o
  obtain rfl : op = .alloc 65 := ho
  go_simp

section
attribute [local go_sem ↓] load_pt

set_option maxRecDepth 100000 in
set_option maxHeartbeats 8000000 in
theorem Mul_vals (k x y : Nat) (w : World) (hk : k < big) (hx : x < big) (hy : y < big) (L0 : Laid w) :
    Calls Tryd.prog 40 #[fev k, ptv x y] w (GaveV w [(vals (Pt.times (toS k).val (qOf x y)).1).1, (vals (Pt.times (toS k).val (qOf x y)).1).2]) := by
  have LK := L0.hid
  obtain ⟨P, hP⟩ : ∃ P, P = qOf x y := ⟨_, rfl⟩
  obtain ⟨e, he⟩ : ∃ e, e = (toS k).val := ⟨_, rfl⟩
  obtain ⟨l, hl⟩ : ∃ l, l = leBytes e 32 := ⟨_, rfl⟩
  obtain ⟨s0, hs0⟩ : ∃ s, s = qspread (pOf 0 1) := ⟨_, rfl⟩
  obtain ⟨t0, ht0⟩ : ∃ s, s = qspread (pOf x y) := ⟨_, rfl⟩
  have hlen : l.length = 32 := by rw [hl]; exact leBytes_length _ _
  have HBit : Hid (∀ j (h : j / 8 < l.length), (l[j / 8]).toNat / 2 ^ (j % 8) % 2 = e / 2 ^ j % 2) := Lib.hid fun j h => by subst hl; exact leBytes_bit e j h
  have HE : Hid (e % 2 ^ 253 = e) := Lib.hid (Nat.mod_eq_of_lt (by rw [he]; exact Nat.lt_trans (toS k).isLt LL_bits))
  have HS := loop_start x y
  rw [← hP, ← hs0, ← ht0] at HS
  have R0 : Hid (Rep4 s0 (Pt.times (e % 2 ^ 0) P).1) := Lib.hid (by rw [Nat.pow_zero, Nat.mod_one]; exact HS.1)
  have R1 : Hid (Rep4 t0 (Pt.times (2 ^ 0) P).1) := Lib.hid (by rw [Nat.pow_zero]; exact HS.2)
  have BY : Hid (∀ W, Below w.heap.size w W → Calls Tryd.prog 67 #[.agg ((lims k).map nv).toArray] W fun e w' => e = .returned (.agg (l.map bv).toArray) ∧ Below W.heap.size W w') := Lib.hid fun W hb => by rw [hl, he]; exact Sca.Bytes_any k W hk (LK.out W hb).sc
  have ZR : Hid (∀ W, Below w.heap.size w W → Calls Tryd.prog 18 #[] W (GaveV W [0, 1])) := Lib.hid fun W hb => Zero_any W (LK.out W hb)
  have SZ : Hid (∀ W, Below w.heap.size w W → Calls Tryd.prog 52 #[.agg ((limsL [0, 1]).map nv).toArray] W (GaveV W (qvals s0))) := Lib.hid fun W hb => by rw [hs0]; exact spread_q 0 1 W (by decide) (by decide) (LK.out W hb)
  have SP : Hid (∀ W, Below w.heap.size w W → Calls Tryd.prog 52 #[.agg ((limsL [x, y]).map nv).toArray] W (GaveV W (qvals t0))) := Lib.hid fun W hb => by rw [ht0]; exact spread_q x y W hx hy (LK.out W hb)
  have PL : Hid (∀ (s t : Qd) W, Below w.heap.size w W → Calls Tryd.prog 53 #[.agg ((limsL (qvals s)).map nv).toArray, .agg ((limsL (qvals t)).map nv).toArray] W (GaveV W (qvals (qplus s t)))) := Lib.hid fun s t W hb => plus_q s t W (LK.out W hb)
  have TW : Hid (∀ (t : Wd) W, Below w.heap.size w W → Calls Tryd.prog 65 #[.agg ((limsL (wvals t)).map nv).toArray] W (GaveV W (qvals (qtwice t)))) := Lib.hid fun t W hb => twice_q t W (LK.out W hb)
  rw [← he, ← hP]
  clear HS hs0 ht0 hl hP he hk hx hy L0 LK
  obtain ⟨res, hres⟩ : ∃ r, r = vals (Pt.times e P).1 := ⟨_, rfl⟩
  rw [← hres]
  have HR := Lib.hid hres
  clear hres
  have HL := Lib.hid hlen
  rw [fev_eq]
  unfold ptv
  have F1 : Bs w (w.heap.size + 1 + 1 + 1) [(w.heap.size + 1 + 1, 26, ((limsL [0, 0]).map nv).toArray), (w.heap.size + 1, 26, ((limsL [x, y]).map nv).toArray), (w.heap.size, 28, ((lims k).map nv).toArray)] (((w.alloc (.cells ((lims k).map nv).toArray 28)).alloc (.cells ((limsL [x, y]).map nv).toArray 26)).alloc (.cells #[.int .u64 0, .int .u64 0, .int .u64 0, .int .u64 0, .int .u64 0, .int .u64 0, .int .u64 0, .int .u64 0] 26)) :=
    ((Bs.nil.alloc rfl).alloc (by simp only [World.size_alloc])).alloc (by simp only [World.size_alloc])
  go_enter Tryd.func40, Tryd.ntmps40
  go_upto_region 1 with (fail)
  generalize ((w.alloc (.cells ((lims k).map nv).toArray 28)).alloc (.cells ((limsL [x, y]).map nv).toArray 26)).alloc (.cells #[.int .u64 0, .int .u64 0, .int .u64 0, .int .u64 0, .int .u64 0, .int .u64 0, .int .u64 0, .int .u64 0] 26) = wv at *
  have hK := F1.getN (g := w.heap.size) (l := lims k) (by repeat (first | exact List.mem_cons_self .. | refine List.mem_cons_of_mem _ ?_))
  go_upto_region 2 with (first
    | (with_reducible refine wpList_load_n rfl 28 (.tmp 2) rfl w.heap.size rfl (lims k) 4 hK rfl Tryd.underlying28 Tryd.infoSc ?_)
    | (go_at_call 67
       with_reducible refine (BY.out _ F1.below).mono ?_
       rintro r w2 ⟨rfl, hb2⟩
       have F2 := Bs.stay _ _ F1 hb2
       have F2a := Bs.stay _ _ F2 ((Below.refl _ w2).alloc (Nat.le_refl _) (.cells zb 27))
       have z2 : HoldsB (w2.alloc (.cells zb 27)) 27 w2.heap.size (List.replicate 32 0) := holdsB_new w2 _ _ _ _ rfl rfl)
    | (with_reducible refine wpList_store_b rfl 27 (.tmp 5) (.tmp 10) rfl w2.heap.size l rfl rfl HL.out (List.replicate 32 0) (by with_unfolding_all exact z2) Tryd.infoB32 (by simp) w.heap.size w (by with_unfolding_all exact F2a.below) F2.below.size ?_
       intro w3 H3 o3 s3 b3
       have F3 := Bs.add (by with_unfolding_all exact F2a) F2.len H3 o3 b3
       clear s3)
    | fail)
  have hg2 := F2.len
  clear hK F1 hb2 F2 F2a z2 H3 o3 b3 BY
  generalize w2.heap.size = g5 at *
  try dsimp only [Act.put]
  go_cut [6, 7] (fun v1 v2 wx => ∃ g6 g7 D, v1 = .pointer (some ⟨g6, 0, none⟩) ∧ v2 = .pointer (some ⟨g7, 0, none⟩) ∧ (g6 ≠ g7 ∧ g5 < g6 ∧ g5 < g7) ∧ Bs w D [(g7, 65, ((limsL (qvals t0)).map nv).toArray), (g6, 65, ((limsL (qvals s0)).map nv).toArray), (g5, 27, (l.map bv).toArray), (w.heap.size + 1 + 1, 26, ((limsL [0, 0]).map nv).toArray), (w.heap.size + 1, 26, ((limsL [x, y]).map nv).toArray), (w.heap.size, 28, ((lims k).map nv).toArray)] wx)
  case first =>
    refine wp_region_lexD 6 (fun k => k == 4 || k == 5) (MadeT 65 #[.int .u64 0, .int .u64 0, .int .u64 0, .int .u64 0, .int .u64 0, .int .u64 0, .int .u64 0, .int .u64 0, .int .u64 0, .int .u64 0, .int .u64 0, .int .u64 0, .int .u64 0, .int .u64 0, .int .u64 0, .int .u64 0] (g5 + 1)) (Bs w (g5 + 1) [(g5, 27, (l.map bv).toArray), (w.heap.size + 1 + 1, 26, ((limsL [0, 0]).map nv).toArray), (w.heap.size + 1, 26, ((limsL [x, y]).map nv).toArray), (w.heap.size, 28, ((lims k).map nv).toArray)]) (by kernel_rfl) (by kernel_rfl) F3.drew Bs.stay MadeT.stay (made_tD run_alloc_qd Bs.size [4, 5] (fun k hk => by simpa [or_assoc] using hk) (fun j hj => by simp only [List.mem_cons, List.not_mem_nil, or_false] at hj; rcases hj with rfl | rfl <;> rfl)) ?_
    simp only [List.take_succ_cons, List.take_zero, List.drop_succ_cons, List.drop_zero]
    refine' lexW_call (by rfl) (by rfl) (fun W hW => ?_) (fun W hW => ?_) ?_
    rotate_left 3
    · go_simp <;> first | with_reducible rfl | exact ⟨rfl, rfl⟩
    · with_reducible exact ZR.out W hW.below
    simp only [Act.put, List.setIfInBounds_toArray, List.set_cons_zero, List.set_cons_succ]
    refine' lexW_call (by rfl) (by rfl) (fun W hW => ?_) (fun W hW => ?_) ?_
    rotate_left 3
    · go_simp <;> first | with_reducible rfl | exact ⟨rfl, rfl⟩
    · with_reducible exact SZ.out W hW.below
    simp only [Act.put, List.setIfInBounds_toArray, List.set_cons_zero, List.set_cons_succ]
    refine lexW_value (v := ?_) (by rfl) (by rfl) (fun W hW => ?_) ?_
    rotate_left
    · have l1 := run_loadPt (hW.getN (g := w.heap.size + 1) (l := limsL [x, y]) (by repeat (first | exact List.mem_cons_self .. | refine List.mem_cons_of_mem _ ?_))); go_simp <;> with_reducible rfl
    simp only [Act.put, List.setIfInBounds_toArray, List.set_cons_zero, List.set_cons_succ]
    refine' lexW_call (by rfl) (by rfl) (fun W hW => ?_) (fun W hW => ?_) ?_
    rotate_left 3
    · go_simp <;> first | with_reducible rfl | exact ⟨rfl, rfl⟩
    · with_reducible exact SP.out W hW.below
    simp only [Act.put, List.setIfInBounds_toArray, List.set_cons_zero, List.set_cons_succ]
    refine lexW_free (by rfl) ?_
    refine lexW_free (by rfl) ?_
    refine lexW_nil (fun b8 W8 F8x E8 => ?_)
    obtain ⟨_, _, ⟨g1, rfl, hg1x, hZ1⟩, ⟨g2, rfl, hg2x, hZ2⟩, n12, rfl⟩ := lexEndD_two (j1 := 4) (j2 := 5) (d1 := 6) (d2 := 7) (by kernel_rfl) (by kernel_rfl) rfl (by simp) (by simp) E8
    have hp8 := F8x.pos
    have hZ1 : HoldsN W8 65 g1 (limsL [0, 0, 0, 0]) := hZ1
    have hZ2 : HoldsN W8 65 g2 (limsL [0, 0, 0, 0]) := hZ2
    have n12 := ptr_ne n12
    simp only [Act.put, List.setIfInBounds_toArray, List.set_cons_zero, List.set_cons_succ]
    go_wp2_with (first
      | (with_reducible refine wpList_store_n rfl 65 (.tmp 6) (.tmp 12) rfl g1 (limsL (qvals s0)) 16 rfl rfl (qvals_len s0) (limsL [0, 0, 0, 0]) hZ1 Tryd.infoQd rfl w.heap.size w F8x.below (by omega) ?_
         intro ya1 H1 o1 s1 b1
         have q12 : HoldsN ya1 65 g2 (limsL [0, 0, 0, 0]) := (o1 g2 (Ne.symm n12)).trans hZ2)
      | (with_reducible refine wpList_store_n rfl 65 (.tmp 7) (.tmp 14) rfl g2 (limsL (qvals t0)) 16 rfl rfl (qvals_len t0) (limsL [0, 0, 0, 0]) q12 Tryd.infoQd rfl w.heap.size w b1 (by omega) ?_
         intro ya2 H2 o2 s2 b2
         have q21 : HoldsN ya2 65 g1 (limsL (qvals s0)) := (o2 g1 n12).trans H1)
      | fail)
    go_meet
    exact ⟨g1, g2, _, rfl, rfl, ⟨n12, by omega, by omega⟩, F8x.add2 q21 H2 (fun k hk => (o2 k (by omega)).trans (o1 k (by omega))) (by omega) b2⟩
  case rest =>
    obtain ⟨g6, g7, D, rfl, rfl, ⟨n67, n56, n57⟩, F4⟩ := hcut
    have hD := F4.pos
    have hT7 := F4.getN (g := g6) (l := limsL (qvals s0)) (by repeat (first | exact List.mem_cons_self .. | refine List.mem_cons_of_mem _ ?_))
    have hO7 := F4.getN (g := g7) (l := limsL (qvals t0)) (by repeat (first | exact List.mem_cons_self .. | refine List.mem_cons_of_mem _ ?_))
    have hN7 := F4.getB (g := g5) (l := l) (by repeat (first | exact List.mem_cons_self .. | refine List.mem_cons_of_mem _ ?_))
    have hR7 := F4.getN (g := w.heap.size + 1 + 1) (l := limsL [0, 0]) (by repeat (first | exact List.mem_cons_self .. | refine List.mem_cons_of_mem _ ?_))
    have b7 := F4.below
    clear F3 F4 ZR SZ SP
    go_wp2_with (fail)
    go_loopw [8, 15] (fun _ v wr => ∃ (j : Nat) (s t : Qd), j ≤ 253 ∧ v = .int .i64 (j : Int) ∧ Hid (Rep4 s (Pt.times (e % 2 ^ j) P).1) ∧ Hid (Rep4 t (Pt.times (2 ^ j) P).1) ∧ HoldsN wr 65 g6 (limsL (qvals s)) ∧ HoldsN wr 65 g7 (limsL (qvals t)) ∧ HoldsB wr 27 g5 l ∧ HoldsN wr 26 (w.heap.size + 1 + 1) (limsL [0, 0]) ∧ Below w.heap.size w wr)
      (fun _ v _ => 253 - (intOf v).toNat)
    case atStart => exact ⟨0, s0, t0, Nat.zero_le _, rfl, R0, R1, hT7, hO7, hN7, hR7, b7⟩
    case round =>
      clear hT7 hO7 hN7 hR7 b7 R0 R1
      obtain ⟨j, s, t, hk, rfl, RS, RT, hT, hO, hN, hR, hb⟩ := hrel
      by_cases hlt : j < 253
      · have hlt2 : (j : Int) < 253 := by omega
        have hj8 : j / 8 < l.length := by rw [HL.out]; omega
        have cE := hN.cell (j := j / 8) hj8
        have hbt := HBit.out j hj8
        have eq4 : (j : Int).tdiv 8 = ((j / 8 : Nat) : Int) := by rw [Int.tdiv_eq_ediv_of_nonneg (by omega)]; omega
        have em4 : (j : Int).tmod 8 = ((j % 8 : Nat) : Int) := by rw [Int.tmod_eq_emod_of_nonneg (by omega)]; omega
        have lq : ((j / 8 : Nat) : Int) < 32 := by omega
        have hr4 : j % 8 < 8 := by omega
        have hx8 := (l[j / 8]).toNat_lt
        generalize (l[j / 8]).toNat = b at *
        clear hj8
        generalize j / 8 = qq at *
        have hv := bit_byte b (j % 8) hx8
        rw [hbt] at hv
        generalize j % 8 = rr at *
        have lr : (rr : Int) < 8 := by omega
        clear hbt
        have RD : Hid (Rep4 (qtwice t.w) (Pt.times (2 ^ (j + 1)) P).1) := Lib.hid (by rw [Nat.pow_succ, Nat.mul_two]; exact RT.out.dbl)
        have hstep := bit_step e j
        have TT := Lib.hid (TW.out t.w)
        by_cases hb1 : e / 2 ^ j % 2 = 1
        · have RM : Hid (Rep4 (qplus s t) (Pt.times (e % 2 ^ (j + 1)) P).1) := Lib.hid (by
            rw [hstep, hb1, Nat.mul_one]
            exact RS.out.sum RT.out)
          have PP := Lib.hid (PL.out s t)
          rw [hb1] at hv
          clear hb1 hstep RS RT HR PL TW HBit HE
          generalize qplus s t = s' at *
          generalize qtwice t.w = t' at *
          go_wp2_with (first
            | (with_reducible refine wpList_load_pt rfl 65 (.tmp 6) rfl g6 rfl (limsL (qvals s)) 16 hT (qvals_len s) Tryd.underlying65 Tryd.infoQd ?_)
            | (with_reducible refine wpList_load_pt rfl 65 (.tmp 7) rfl g7 rfl (limsL (qvals t)) 16 hO (qvals_len t) Tryd.underlying65 Tryd.infoQd ?_)
            | (go_at_call 53
               with_reducible refine (PP.out _ hb).mono ?_
               rintro e w3 ⟨rfl, hb3⟩
               have hT3 := hT.keep hb3 hT.lt
               have hO3 := hO.keep hb3 hO.lt
               have hN3 := hN.keep hb3 hN.lt
               have hR3 := hR.keep hb3 hR.lt
               have b3 := hb.trans (hb3.mono hb.size))
            | (with_reducible refine wpList_store_n rfl 65 (.tmp 6) (.tmp 29) rfl g6 (limsL (qvals s')) 16 rfl rfl (qvals_len s') (limsL (qvals s)) hT3 Tryd.infoQd (qvals_len s) w.heap.size w b3 (by omega) ?_
               intro w4 hT4 o4 s4 b4
               have hO4 := hO3.oth o4 (by omega)
               have hN4 := hN3.oth o4 (by omega)
               have hR4 := hR3.oth o4 (by omega)
               have hQ4 := qd_range hO4
               clear s4)
            | (with_reducible refine wpList_load_mid rfl 63 (.tmp 30) rfl g7 0 rfl ((limsL (wvals t.w)).map nv) _ hQ4 Tryd.underlying63 rfl (by rw [Tryd.infoTr, List.length_map, wvals_len]) ?_)
            | (go_at_call 65
               with_reducible refine (TT.out _ b4).mono ?_
               rintro e w5 ⟨rfl, hb5⟩
               have hT5 := hT4.keep hb5 hT4.lt
               have hO5 := hO4.keep hb5 hO4.lt
               have hN5 := hN4.keep hb5 hN4.lt
               have hR5 := hR4.keep hb5 hR4.lt
               have b5 := b4.trans (hb5.mono b4.size))
            | (with_reducible refine wpList_store_n rfl 65 (.tmp 7) (.tmp 32) rfl g7 (limsL (qvals t')) 16 rfl rfl (qvals_len t') (limsL (qvals t)) hO5 Tryd.infoQd (qvals_len t) w.heap.size w b5 (by omega) ?_
               intro w6 hO6 o6 s6 b6
               have hT6 := hT5.oth o6 (by omega)
               have hN6 := hN5.oth o6 (by omega)
               have hR6 := hR5.oth o6 (by omega)
               clear s6)
            | fail)
          go_roundw
          case rel => exact ⟨j + 1, s', t', by omega, by go_num, RM, RD, hT6, hO6, hN6, hR6, b6⟩
          case measure => simp [intOf]; omega
        · have hb0 : e / 2 ^ j % 2 = 0 := by omega
          have RM : Hid (Rep4 s (Pt.times (e % 2 ^ (j + 1)) P).1) := Lib.hid (by
            rw [hstep, hb0, Nat.mul_zero, Nat.add_zero]
            exact RS.out)
          rw [hb0] at hv
          clear hb1 hb0 hstep RS RT HR PL TW HBit HE
          have hQ4 := qd_range hO
          generalize qtwice t.w = t' at *
          go_wp2_with (first
            | (with_reducible refine wpList_load_mid rfl 63 (.tmp 30) rfl g7 0 rfl ((limsL (wvals t.w)).map nv) _ hQ4 Tryd.underlying63 rfl (by rw [Tryd.infoTr, List.length_map, wvals_len]) ?_)
            | (go_at_call 65
               with_reducible refine (TT.out _ hb).mono ?_
               rintro e w5 ⟨rfl, hb5⟩
               have hT5 := hT.keep hb5 hT.lt
               have hO5 := hO.keep hb5 hO.lt
               have hN5 := hN.keep hb5 hN.lt
               have hR5 := hR.keep hb5 hR.lt
               have b5 := hb.trans (hb5.mono hb.size))
            | (with_reducible refine wpList_store_n rfl 65 (.tmp 7) (.tmp 32) rfl g7 (limsL (qvals t')) 16 rfl rfl (qvals_len t') (limsL (qvals t)) hO5 Tryd.infoQd (qvals_len t) w.heap.size w b5 (by omega) ?_
               intro w6 hO6 o6 s6 b6
               have hT6 := hT5.oth o6 (by omega)
               have hN6 := hN5.oth o6 (by omega)
               have hR6 := hR5.oth o6 (by omega)
               clear s6)
            | fail)
          go_roundw
          case rel => exact ⟨j + 1, s, t', by omega, by go_num, RM, RD, hT6, hO6, hN6, hR6, b6⟩
          case measure => simp [intOf]; omega
      · rw [show (j : Int) = 253 by omega]
        obtain rfl : j = 253 := by omega
        have PN : Hid (∀ W, Calls Tryd.prog 54 #[.agg ((limsL (wvals s.w)).map nv).toArray] W (GaveV W [res.1, res.2])) := Lib.hid fun W => by
          have h := RS.out
          rw [HE.out] at h
          rw [HR.out]
          exact point_q h.rep W
        have hQ4 := qd_range hT
        clear hO hN RS RT PL TW HBit HE HR
        go_wp2_with (first
          | (with_reducible refine wpList_load_mid rfl 63 (.tmp 34) rfl g6 0 rfl ((limsL (wvals s.w)).map nv) _ hQ4 Tryd.underlying63 rfl (by rw [Tryd.infoTr, List.length_map, wvals_len]) ?_)
          | (go_at_call 54
             with_reducible refine (PN.out _).mono ?_
             rintro e w5 ⟨rfl, hb5⟩
             have hR5 := hR.keep hb5 hR.lt
             have b5 := hb.trans (hb5.mono hb.size))
          | (with_reducible refine wpList_store_n rfl 26 (.tmp 4) (.tmp 36) rfl (w.heap.size + 1 + 1) (limsL [res.1, res.2]) 8 rfl rfl rfl (limsL [0, 0]) hR5 Tryd.infoPt rfl w.heap.size w b5 (by omega) ?_; intro w9 Hg _ _ b9)
          | fail)
        exact bodyPost_ret (results_cell_row rfl _ _ _ _ _ _ _ rfl Hg Tryd.underlying26 rfl (by rw [Tryd.infoPt]; rfl)) rfl ⟨rfl, b9⟩
theorem Mul_any (k x y : Nat) (w : World) (hk : k < big) (hx : x < big) (hy : y < big) (L0 : Laid w) : Calls Tryd.prog 40 #[fev k, ptv x y] w (GaveQ w (Pt.times (toS k).val (qOf x y)).1) := (Mul_vals k x y w hk hx hy L0).mono fun _ _ h => gaveQ_of h
end
end Crv
end Go.Proofs.YtlfkohanfeejfaaDoor

namespace Go.Proofs.YtlfkohanfeejfaaDoor
open Go.RowKit
namespace Crv
theorem FSame_any (m n : Nat) (w : World) (hm : m < big) (hn : n < big) (_ : Laid w) : Calls Tryd.prog 44 #[fev m, fev n] w fun e w' => e = .returned (.bool (decide (toF m = toF n))) ∧ Below w.heap.size w w' := Go.Proofs.YtlfkohanfeejfaaDoor.Same_any m n w hm hn
theorem SAdd_any (m n : Nat) (w : World) (hm : m < big) (hn : n < big) (L : Laid w) : Calls Tryd.prog 20 #[fev m, fev n] w (GaveF w (toS m + toS n).val) := Sca.Add_any m n w hm hn L.sc
end Crv
end Go.Proofs.YtlfkohanfeejfaaDoor
