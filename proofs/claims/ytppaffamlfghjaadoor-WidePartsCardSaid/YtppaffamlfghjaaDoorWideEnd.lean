/-
  End: the program's.
-/
import Derived.Test.YtppaffamlfghjaaDoorWideMore
import Derived.Test.YtppaffamlfghjaaDoorWideEnding
import Derived.Test.YtppaffamlfghjaaDoorWideOut
import Derived.Deep.RegionHeld3
import Derived.Great.BuildSlice
namespace Go.Proofs.YtppaffamlfghjaaDoor
open Go.RowKit

/-- What is read out of its block, under a name that the walk does not open. -/
def loadVeil (t : TypeId) (a : Addr) : Sem Value := loadVar t a
theorem load_veilH (a : Addr) : loadVar 45 a = loadVeil 45 a := rfl
theorem run_loadVeilH {w : World} {g : Nat} {s : St} {A : Option Addr} {n c m : Nat} (hg : HoldsH w g s A n c m) : (loadVeil 45 ⟨g, 0, none⟩).run Tryd.prog w = .ok (hv s A n c m) w :=
  run_loadVar_row w g 45 45 _ (0, 0) _ hg Tryd.underlying45 rfl (by rw [Tryd.infoH]; rfl)
theorem run_field_state (t : St) (A : Option Addr) (n c m : Nat) (W : World) : (Instr.field 45 (hv t A n c m) 0).run Tryd.prog W = .ok (sv t) W := by kernel_rfl
def GaveE (w : World) (l : List UInt8) (err : Int) (e : Ending) (w' : World) : Prop := e = .returned (.tuple #[.agg (l.map bv).toArray, .int .i64 err]) ∧ Below w.heap.size w w'

/-- 'r = k' of thirty-two bytes at a step. -/
theorem step_store_b {P : Program} {ops : Array Oper} {o : Oper} {a : Act} {w : World} {K : Act → World → Prop} {Q : Exit → Act → World → Prop} {E : Prop} (hgd : o.guard = none) (ty : TypeId) (x y : Operand) (ho : o.op = .store ty x y)
    (g : Nat) (l : List UInt8) (hl : l.length = 64) (hx : a.eval x = .pointer (some ⟨g, 0, none⟩)) (hy : a.eval y = .agg (l.map bv).toArray)
    (old : List UInt8) (hg : HoldsB w ty g old) (hi : (P.info? ty).map (·.size) = some 64) (hold : old.length = 64) (D : Nat) (w0 : World) (hb : Below D w0 w) (hD : D ≤ g)
    (h : ∀ w' : World, HoldsB w' ty g l → (∀ k, k ≠ g → w'.heap[k]? = w.heap[k]?) → w'.heap.size = w.heap.size → Below D w0 w' → K (a.put o.dst undef) w') :
    if Region.wanted o (yielded ops a.tmps) = true then Oper.wp P o a w K Q else E := by
  have hw : Region.wanted o (yielded ops a.tmps) = true := by simp [Region.wanted, hgd]
  rw [if_pos hw]
  exact wp_store_row ty x y ho g _ hx hy ty _ hg (by rw [hi, (b_cells l hl).1]) (by rw [(b_cells l hl).1]; simpa using hold) (b_cells l hl).2
    (h _ (show _ = _ from setRow_heap w g _ _ ty _ hg) (fun k hk => setRow_other w g k _ hk) (by simp) (below_setRow hb hD _))

theorem e_start (w : World) (s : St) (A : Option Addr) (n c m : Nat) (c1 c2 : Array Value) (h1 : c1 = hcells s A n c m) (h2 : c2 = ((List.replicate 64 (0 : UInt8)).map bv).toArray) :
    HoldsH ((w.alloc (.cells c1 45)).alloc (.cells c2 48)) w.heap.size s A n c m ∧ HoldsB ((w.alloc (.cells c1 45)).alloc (.cells c2 48)) 48 (w.heap.size + 1) (List.replicate 64 0) ∧
    Below w.heap.size w ((w.alloc (.cells c1 45)).alloc (.cells c2 48)) ∧ ((w.alloc (.cells c1 45)).alloc (.cells c2 48)).heap.size = w.heap.size + 1 + 1 := by
  have e1 : (w.alloc (.cells c1 45)).heap.size = w.heap.size + 1 := World.size_alloc ..
  have a1 : HoldsH (w.alloc (.cells c1 45)) w.heap.size s A n c m := holdsH_new w _ c1 _ _ _ _ _ rfl h1
  have a2 := holdsB_new (w.alloc (.cells c1 45)) 48 (w.heap.size + 1) c2 _ e1.symm h2
  exact ⟨a1.alloc _, a2, ((Below.refl _ w).alloc (Nat.le_refl _) _).alloc (by rw [e1]; omega) _, by rw [World.size_alloc, e1]⟩

section
attribute [local go_sem ↓] load_veilH

set_option maxRecDepth 100000 in
set_option maxHeartbeats 4000000 in
theorem End_ok (A : Option Addr) (n c m B : Nat) (r : List UInt8) (s : St) (w : World) (h : Sees w B A n c (r.map bv)) (hB : B ≤ w.heap.size) (hn : n < 128) (hmay : ((n : Int) == (m : Int) % 128) = true) (hm : m < 18446744073709551616) (L0 : Laid w) :
    Calls Tryd.prog 24 #[hv s A n c m] w (GaveE w (endOf s r m) 0) := by
  have hlr : r.length = n := by have := h.len; simpa using this
  have HT : Hid (∀ W, Calls Tryd.prog 40 #[hv s A n c m] W fun e w' => e = .returned (.bool true) ∧ Below W.heap.size W w') := Lib.hid fun W => by
    have := isText_any s A n c m W (by omega)
    rwa [hmay] at this
  clear hmay
  have hTail : Hid (endOf s r m = out64 (absorb s (r ++ tailOf n m))) := Lib.hid (by unfold endOf; rw [hlr])
  have hTl := tail_length n m
  obtain ⟨T, hT⟩ : ∃ T, T = tailOf n m := ⟨_, rfl⟩
  obtain ⟨M, hM⟩ : ∃ M, M = 128 - (n + 16) % 128 + 8 + 8 := ⟨_, rfl⟩
  have HE : Hid (∀ W, Calls Tryd.prog 45 #[hv s A n c m] W fun e w' => ∃ A' c', e = .returned (.slice A' M c') ∧ Sees w' w'.heap.size A' M c' (T.map bv) ∧ Below W.heap.size W w') := Lib.hid fun W => by
    rw [hT, hM]; exact ending_any s A n c m W hn hm
  rw [← hT] at hTail
  have hM2 : M ≤ 1000 := by omega
  obtain ⟨N', hN'⟩ : ∃ N', (left (r ++ T)).length = N' := ⟨_, rfl⟩
  have HG : Hid (∀ W A4 c4, Below w.heap.size w W → Sees W W.heap.size A4 M c4 (T.map bv) → Calls Tryd.prog 41 #[hv s A n c m, .slice A4 M c4] W (GaveH W (absorb s (r ++ T)) N' (left (r ++ T)) ((m + M) % 18446744073709551616))) := Lib.hid fun W A4 c4 hW hs =>
    goOn_any A A4 n c M c4 m W.heap.size N' r T s W ((h.upTo hW hB).more (Nat.le_trans hB hW.size)) hs (Nat.le_refl _) hn (by omega) hN' (L0.keep hW L0.size)
  rw [hTail.out]
  clear hTail hT hM hTl hlr hN' hm
  generalize left (r ++ T) = rest at *
  generalize absorb s (r ++ T) = t at *
  generalize (m + M) % 18446744073709551616 = mm at *
  have NB : Hid (∀ W, Calls Tryd.prog 44 #[sv t] W fun e w' => e = .returned (.agg ((out64 t).map bv).toArray) ∧ Below W.heap.size W w') := Lib.hid fun W => numbersBytes_any t W
  have hol := Lib.hid (out64_length t)
  generalize out64 t = out at *
  have hfs := run_field_state t
  have HST := e_start w s A n c m #[.int .u64 (s.a.toNat : Int), .int .u64 (s.b.toNat : Int), .int .u64 (s.c.toNat : Int), .int .u64 (s.d.toNat : Int), .int .u64 (s.e.toNat : Int), .int .u64 (s.f.toNat : Int), .int .u64 (s.g.toNat : Int), .int .u64 (s.h.toNat : Int), .slice A n c, .int .u64 (m : Int)] _ rfl rfl
  obtain ⟨H0, H1, HB, HS⟩ := HST
  rw [hv_cells]
  unfold hcells
  go_enter Tryd.func24, Tryd.ntmps24
  go_wp2_with (first
    | (with_reducible refine wpList_load_h rfl (.tmp 1) rfl w.heap.size rfl s A n c m (by with_unfolding_all exact H0) Tryd.underlying45 Tryd.infoH ?_)
    | (go_at_call 40
       refine (HT.out _).mono ?_
       rintro e w3 ⟨rfl, hb3⟩
       have G0 := H0.keep hb3 H0.lt
       have G1 := H1.keep hb3 H1.lt
       have GB := HB.trans (hb3.mono HB.size)
       have g1 := G1.lt))
  clear H0 H1 HB HS
  refine wp_region_noPanic ?_
  refine wp_region_held_drew (S := (fun W => (loadVeil 45 ⟨w.heap.size, 0, none⟩).run Tryd.prog W = .ok (hv s A n c m) W)) (by kernel_rfl) (by (try dsimp only); (first | exact run_loadVeilH (w := w3.drew) G0 | exact run_loadVeilH X4 | exact run_loadVeilH X5 | exact run_loadVeilH X6 | exact run_loadVeilH X7)) (fun hHeld => ?_)
  refine wpAnyH_take (i := 0) (v := ?_) rfl (by kernel_rfl) (by kernel_rfl) (by kernel_rfl) (fun _ _ _ h => h) (Or.inl ⟨by rfl, ?_⟩) (by assumption) ?_
  rotate_left
  · intro w hSw; (try dsimp only at hSw); go_simp <;> with_reducible rfl
  try simp only [Act.put, List.getElem_toArray, List.getElem_cons_zero, List.setIfInBounds_toArray, List.set_cons_zero, List.set_cons_succ]
  refine wpAnyH_take (i := 1) (v := ?_) rfl (by kernel_rfl) (by kernel_rfl) (by kernel_rfl) (fun _ _ _ h => h) (Or.inl ⟨by rfl, ?_⟩) (by assumption) ?_
  rotate_left
  · intro w hSw; (try dsimp only at hSw); go_simp <;> with_reducible rfl
  try simp only [Act.put, List.getElem_toArray, List.getElem_cons_succ, List.getElem_cons_zero, List.setIfInBounds_toArray, List.set_cons_zero, List.set_cons_succ]
  refine wpAnyH_ready (rs := [2]) (by kernel_rfl) (by simp) ?_
  refine AllReadyH.cons rfl (fun K hK => ?_) AllReadyH.nil
  go_simp
  (first | (go_at_call 45; refine (HE.out _).mono ?_; rintro e w4 ⟨A4, c4, rfl, hs4, hb4⟩; have X4 := HoldsH.keep (W := w3.drew) G0 hb4 G0.lt; have Z4 := HoldsB.keep (W := w3.drew) G1 hb4 G1.lt; have B4 := GB.drew.trans (hb4.mono GB.size)) | (go_at_call 41; refine (HG.out _ A4 c4 B4 hs4).mono ?_; rintro e w5 ⟨A5, c5, rfl, hs5, hb5⟩; have X5 := X4.keep hb5 X4.lt; have Z5 := Z4.keep hb5 Z4.lt; have B5 := B4.trans (hb5.mono B4.size)) | (go_at_call 44; refine (NB.out _).mono ?_; rintro e w6 ⟨rfl, hb6⟩; have X6 := X5.keep hb6 X5.lt; have Z6 := Z5.keep hb6 Z5.lt; have B6 := B5.trans (hb6.mono B5.size)) | (refine step_store_b (by rfl) 48 (.tmp 2) (.tmp 13) (by rfl) (w.heap.size + 1) out hol.out (by rfl) (by rfl) _ Z6 Tryd.infoB32 (by simp) w.heap.size w B6 (Nat.le_succ _) ?_; intro w7 Hg7 o7 s7 B7; have X7 := X6.oth o7 (by omega)))
  dsimp only
  refine hK.out _ _ ?_ (fun hHeld => ?_)
  · (try dsimp only); (first | exact run_loadVeilH (w := w3.drew) G0 | exact run_loadVeilH X4 | exact run_loadVeilH X5 | exact run_loadVeilH X6 | exact run_loadVeilH X7)
  clear hK K
  try simp only [Act.put, List.getElem_toArray, List.getElem_cons_succ, List.getElem_cons_zero, List.setIfInBounds_toArray, List.set_cons_zero, List.set_cons_succ]
  refine wpAnyH_ready (rs := [3]) (by kernel_rfl) (by simp) ?_
  refine AllReadyH.cons rfl (fun K hK => ?_) AllReadyH.nil
  go_simp
  (first | (go_at_call 45; refine (HE.out _).mono ?_; rintro e w4 ⟨A4, c4, rfl, hs4, hb4⟩; have X4 := HoldsH.keep (W := w3.drew) G0 hb4 G0.lt; have Z4 := HoldsB.keep (W := w3.drew) G1 hb4 G1.lt; have B4 := GB.drew.trans (hb4.mono GB.size)) | (go_at_call 41; refine (HG.out _ A4 c4 B4 hs4).mono ?_; rintro e w5 ⟨A5, c5, rfl, hs5, hb5⟩; have X5 := X4.keep hb5 X4.lt; have Z5 := Z4.keep hb5 Z4.lt; have B5 := B4.trans (hb5.mono B4.size)) | (go_at_call 44; refine (NB.out _).mono ?_; rintro e w6 ⟨rfl, hb6⟩; have X6 := X5.keep hb6 X5.lt; have Z6 := Z5.keep hb6 Z5.lt; have B6 := B5.trans (hb6.mono B5.size)) | (refine step_store_b (by rfl) 48 (.tmp 2) (.tmp 13) (by rfl) (w.heap.size + 1) out hol.out (by rfl) (by rfl) _ Z6 Tryd.infoB32 (by simp) w.heap.size w B6 (Nat.le_succ _) ?_; intro w7 Hg7 o7 s7 B7; have X7 := X6.oth o7 (by omega)))
  dsimp only
  refine hK.out _ _ ?_ (fun hHeld => ?_)
  · (try dsimp only); (first | exact run_loadVeilH (w := w3.drew) G0 | exact run_loadVeilH X4 | exact run_loadVeilH X5 | exact run_loadVeilH X6 | exact run_loadVeilH X7)
  clear hK K
  try simp only [Act.put, List.getElem_toArray, List.getElem_cons_succ, List.getElem_cons_zero, List.setIfInBounds_toArray, List.set_cons_zero, List.set_cons_succ]
  refine wpAnyH_take (i := 4) (v := ?_) rfl (by kernel_rfl) (by kernel_rfl) (by kernel_rfl) (fun _ _ _ h => h) (Or.inl ⟨by rfl, ?_⟩) (by assumption) ?_
  rotate_left
  · intro w hSw; (try dsimp only at hSw); go_simp <;> with_reducible rfl
  try simp only [Act.put, List.getElem_toArray, List.getElem_cons_succ, List.getElem_cons_zero, List.setIfInBounds_toArray, List.set_cons_zero, List.set_cons_succ]
  refine wpAnyH_ready (rs := [5]) (by kernel_rfl) (by simp) ?_
  refine AllReadyH.cons rfl (fun K hK => ?_) AllReadyH.nil
  go_simp
  (first | (go_at_call 45; refine (HE.out _).mono ?_; rintro e w4 ⟨A4, c4, rfl, hs4, hb4⟩; have X4 := HoldsH.keep (W := w3.drew) G0 hb4 G0.lt; have Z4 := HoldsB.keep (W := w3.drew) G1 hb4 G1.lt; have B4 := GB.drew.trans (hb4.mono GB.size)) | (go_at_call 41; refine (HG.out _ A4 c4 B4 hs4).mono ?_; rintro e w5 ⟨A5, c5, rfl, hs5, hb5⟩; have X5 := X4.keep hb5 X4.lt; have Z5 := Z4.keep hb5 Z4.lt; have B5 := B4.trans (hb5.mono B4.size)) | (go_at_call 44; refine (NB.out _).mono ?_; rintro e w6 ⟨rfl, hb6⟩; have X6 := X5.keep hb6 X5.lt; have Z6 := Z5.keep hb6 Z5.lt; have B6 := B5.trans (hb6.mono B5.size)) | (refine step_store_b (by rfl) 48 (.tmp 2) (.tmp 13) (by rfl) (w.heap.size + 1) out hol.out (by rfl) (by rfl) _ Z6 Tryd.infoB32 (by simp) w.heap.size w B6 (Nat.le_succ _) ?_; intro w7 Hg7 o7 s7 B7; have X7 := X6.oth o7 (by omega)))
  dsimp only
  refine hK.out _ _ ?_ (fun hHeld => ?_)
  · (try dsimp only); (first | exact run_loadVeilH (w := w3.drew) G0 | exact run_loadVeilH X4 | exact run_loadVeilH X5 | exact run_loadVeilH X6 | exact run_loadVeilH X7)
  clear hK K
  try simp only [Act.put, List.getElem_toArray, List.getElem_cons_succ, List.getElem_cons_zero, List.setIfInBounds_toArray, List.set_cons_zero, List.set_cons_succ]
  refine wpAnyH_ready (rs := [6]) (by kernel_rfl) (by simp) ?_
  refine AllReadyH.cons rfl (fun K hK => ?_) AllReadyH.nil
  (first | (go_at_call 45; refine (HE.out _).mono ?_; rintro e w4 ⟨A4, c4, rfl, hs4, hb4⟩; have X4 := HoldsH.keep (W := w3.drew) G0 hb4 G0.lt; have Z4 := HoldsB.keep (W := w3.drew) G1 hb4 G1.lt; have B4 := GB.drew.trans (hb4.mono GB.size)) | (go_at_call 41; refine (HG.out _ A4 c4 B4 hs4).mono ?_; rintro e w5 ⟨A5, c5, rfl, hs5, hb5⟩; have X5 := X4.keep hb5 X4.lt; have Z5 := Z4.keep hb5 Z4.lt; have B5 := B4.trans (hb5.mono B4.size)) | (go_at_call 44; refine (NB.out _).mono ?_; rintro e w6 ⟨rfl, hb6⟩; have X6 := X5.keep hb6 X5.lt; have Z6 := Z5.keep hb6 Z5.lt; have B6 := B5.trans (hb6.mono B5.size)) | (refine step_store_b (by rfl) 48 (.tmp 2) (.tmp 13) (by rfl) (w.heap.size + 1) out hol.out (by rfl) (by rfl) _ Z6 Tryd.infoB32 (by simp) w.heap.size w B6 (Nat.le_succ _) ?_; intro w7 Hg7 o7 s7 B7; have X7 := X6.oth o7 (by omega)))
  refine hK.out _ _ ?_ (fun hHeld => ?_)
  · (try dsimp only); (first | exact run_loadVeilH (w := w3.drew) G0 | exact run_loadVeilH X4 | exact run_loadVeilH X5 | exact run_loadVeilH X6 | exact run_loadVeilH X7)
  clear hK K
  try simp only [Act.put, List.getElem_toArray, List.getElem_cons_succ, List.getElem_cons_zero]
  refine wpAnyH_take (i := 7) (v := ?_) rfl (by kernel_rfl) (by kernel_rfl) (by kernel_rfl) (fun _ _ _ h => h) (Or.inl ⟨by rfl, ?_⟩) (by assumption) ?_
  rotate_left
  · intro w hSw; (try dsimp only at hSw); go_simp <;> with_reducible rfl
  try simp only [Act.put, List.getElem_toArray, List.getElem_cons_succ, List.getElem_cons_zero, List.setIfInBounds_toArray, List.set_cons_zero, List.set_cons_succ]
  refine wpAnyH_done (by kernel_rfl) ?_ _
  refine NoPanic.normal ?_
  go_wp2
  exact bodyPost_ret (results_cell_tmp rfl _ _ (w.heap.size + 1) _ _ _ _ rfl Hg7 Tryd.underlying48 rfl (by rw [Tryd.infoB32, (b_cells _ hol.out).1])) rfl ⟨rfl, B7⟩
end

theorem builtB32 : Tryd.prog.built 48 [] = some ((List.replicate 64 (0 : UInt8)).map bv).toArray := by kernel_rfl

set_option maxRecDepth 100000 in
set_option maxHeartbeats 1000000 in
theorem End_bad (A : Option Addr) (n c m : Nat) (s : St) (w : World) (hn : n ≤ 1000000) (hmay : ((n : Int) == (m : Int) % 128) = false) :
    Calls Tryd.prog 24 #[hv s A n c m] w (GaveE w (List.replicate 64 0) 1) := by
  have HT : Hid (∀ W, Calls Tryd.prog 40 #[hv s A n c m] W fun e w' => e = .returned (.bool false) ∧ Below W.heap.size W w') := Lib.hid fun W => by
    have := isText_any s A n c m W (by omega)
    rwa [hmay] at this
  clear hmay
  have HST := e_start w s A n c m #[.int .u64 (s.a.toNat : Int), .int .u64 (s.b.toNat : Int), .int .u64 (s.c.toNat : Int), .int .u64 (s.d.toNat : Int), .int .u64 (s.e.toNat : Int), .int .u64 (s.f.toNat : Int), .int .u64 (s.g.toNat : Int), .int .u64 (s.h.toNat : Int), .slice A n c, .int .u64 (m : Int)] _ rfl rfl
  obtain ⟨H0, H1, HB, HS⟩ := HST
  rw [hv_cells]
  unfold hcells
  go_enter Tryd.func24, Tryd.ntmps24
  go_wp2_with (first
    | (with_reducible refine wpList_load_h rfl (.tmp 1) rfl w.heap.size rfl s A n c m (by with_unfolding_all exact H0) Tryd.underlying45 Tryd.infoH ?_)
    | (go_at_call 40
       refine (HT.out _).mono ?_
       rintro e w3 ⟨rfl, hb3⟩
       have G1 := H1.keep hb3 H1.lt
       have GB := HB.trans (hb3.mono HB.size))
    | (with_reducible refine wpList_buildTo rfl 48 #[] rfl (some 7) rfl (((List.replicate 64 (0 : UInt8)).map bv).toArray) (by with_unfolding_all exact builtB32) ?_)
    | (with_reducible refine wpList_store_b rfl 48 (.tmp 2) (.tmp 7) rfl (w.heap.size + 1) (List.replicate 64 0) (by simp) rfl rfl _ G1 Tryd.infoB32 (by simp) w.heap.size w GB (by omega) ?_; intro w4 Hg _ _ hb4))
  exact bodyPost_ret (results_cell_tmp rfl _ _ (w.heap.size + 1) _ _ _ _ rfl Hg Tryd.underlying48 rfl (by rw [Tryd.infoB32, (b_cells _ (by simp)).1])) rfl ⟨rfl, hb4⟩
end Go.Proofs.YtppaffamlfghjaaDoor
