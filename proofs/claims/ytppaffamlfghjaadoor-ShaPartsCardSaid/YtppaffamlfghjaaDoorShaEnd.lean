/-
  End: the program's.
-/
import Derived.Test.YtppaffamlfghjaaDoorShaMore
import Derived.Deep.RegionHeld3
import Derived.Great.BuildSlice
namespace Go.Proofs.YtppaffamlfghjaaDoor
open Go.RowKit

/-- 'r = k' of thirty-two bytes at a step. -/
theorem step_store_b {P : Program} {ops : Array Oper} {o : Oper} {a : Act} {w : World} {K : Act → World → Prop} {Q : Exit → Act → World → Prop} {E : Prop} (hgd : o.guard = none) (ty : TypeId) (x y : Operand) (ho : o.op = .store ty x y)
    (g : Nat) (l : List UInt8) (hl : l.length = 32) (hx : a.eval x = .pointer (some ⟨g, 0, none⟩)) (hy : a.eval y = .agg (l.map bv).toArray)
    (old : List UInt8) (hg : HoldsB w ty g old) (hi : (P.info? ty).map (·.size) = some 32) (hold : old.length = 32) (D : Nat) (w0 : World) (hb : Below D w0 w) (hD : D ≤ g)
    (h : ∀ w' : World, HoldsB w' ty g l → (∀ k, k ≠ g → w'.heap[k]? = w.heap[k]?) → w'.heap.size = w.heap.size → Below D w0 w' → K (a.put o.dst undef) w') :
    if Region.wanted o (yielded ops a.tmps) = true then Oper.wp P o a w K Q else E := by
  have hw : Region.wanted o (yielded ops a.tmps) = true := by simp [Region.wanted, hgd]
  rw [if_pos hw]
  exact wp_store_row ty x y ho g _ hx hy ty _ hg (by rw [hi, (b_cells l hl).1]) (by rw [(b_cells l hl).1]; simpa using hold) (b_cells l hl).2
    (h _ (show _ = _ from setRow_heap w g _ _ ty _ hg) (fun k hk => setRow_other w g k _ hk) (by simp) (below_setRow hb hD _))

theorem e_start (w : World) (s : St) (A : Option Addr) (n c m : Nat) (c1 c2 : Array Value) (h1 : c1 = hcells s A n c m) (h2 : c2 = ((List.replicate 32 (0 : UInt8)).map bv).toArray) :
    HoldsH ((w.alloc (.cells c1 27)).alloc (.cells c2 32)) w.heap.size s A n c m ∧ HoldsB ((w.alloc (.cells c1 27)).alloc (.cells c2 32)) 32 (w.heap.size + 1) (List.replicate 32 0) ∧
    Below w.heap.size w ((w.alloc (.cells c1 27)).alloc (.cells c2 32)) ∧ ((w.alloc (.cells c1 27)).alloc (.cells c2 32)).heap.size = w.heap.size + 1 + 1 := by
  have e1 : (w.alloc (.cells c1 27)).heap.size = w.heap.size + 1 := World.size_alloc ..
  have a1 : HoldsH (w.alloc (.cells c1 27)) w.heap.size s A n c m := holdsH_new w _ c1 _ _ _ _ _ rfl h1
  have a2 := holdsB_new (w.alloc (.cells c1 27)) 32 (w.heap.size + 1) c2 _ e1.symm h2
  exact ⟨a1.alloc _, a2, ((Below.refl _ w).alloc (Nat.le_refl _) _).alloc (by rw [e1]; omega) _, by rw [World.size_alloc, e1]⟩

theorem run_field_state (a b c d e f g h : Value) (u v : Value) (W : World) :
    (Instr.field 27 (.agg #[a, b, c, d, e, f, g, h, u, v]) 0).run Tryd.prog W = .ok (.agg #[a, b, c, d, e, f, g, h]) W := by kernel_rfl

def GaveE (w : World) (l : List UInt8) (err : Int) (e : Ending) (w' : World) : Prop := e = .returned (.tuple #[.agg (l.map bv).toArray, .int .i64 err]) ∧ Below w.heap.size w w'

set_option maxRecDepth 100000 in
set_option maxHeartbeats 4000000 in
theorem End_ok (A : Option Addr) (n c m B : Nat) (r : List UInt8) (s : St) (w : World) (h : Sees w B A n c (r.map bv)) (hB : B ≤ w.heap.size) (hn : n < 64) (hmay : ((n : Int) == (m : Int) % 64) = true) (L0 : Laid w) :
    Calls Tryd.prog 14 #[hv s A n c m] w (GaveE w (endOf s r m) 0) := by
  have hlr : r.length = n := by have := h.len; simpa using this
  have HT : Hid (∀ W, Calls Tryd.prog 31 #[hv s A n c m] W fun e w' => e = .returned (.bool true) ∧ Below W.heap.size W w') := Lib.hid fun W => by
    have := isText_any s A n c m W (by omega)
    rwa [hmay] at this
  clear hmay
  have hw8 : IntKind.u64.wrap (8 * (m : Int)) = ((8 * m % 18446744073709551616 : Nat) : Int) := by rw [IntKind.wrap_u64]; omega
  have hTail : Hid (endOf s r m = out32 (absorb s (r ++ (((128 : UInt8) :: List.replicate (64 - (n + 8) % 64 - 1) 0) ++ beBytes 8 (8 * m % 18446744073709551616))))) := Lib.hid (by unfold endOf tailOf; rw [hlr])
  have hq64 : 8 * m % 18446744073709551616 < 18446744073709551616 := Nat.mod_lt _ (by omega)
  generalize 8 * m % 18446744073709551616 = q at *
  have hq0 : (((q : Nat) : Int) / 2 ^ (8 * (8 : Int)).toNat != 0) = false := by
    have e : (2 : Int) ^ (8 * (8 : Int)).toNat = 18446744073709551616 := by decide
    rw [e]
    have : (q : Int) / 18446744073709551616 = 0 := by omega
    rw [this]; rfl
  have Hq0 := Lib.hid hq0
  clear hq0
  obtain ⟨M, hM⟩ : ∃ M, M = 64 - (n + 8) % 64 := ⟨_, rfl⟩
  have HF : Hid (∀ W, Calls Tryd.prog 39 #[hv s A n c m] W fun e w' => ∃ A' c', e = .returned (.slice A' M c') ∧ Sees w' w'.heap.size A' M c' (((128 : UInt8) :: List.replicate (M - 1) 0).map bv) ∧ Below W.heap.size W w') := Lib.hid fun W => by
    rw [hM]; exact filling_any s A n c m W hn
  rw [← hM] at hTail
  have hM2 : M ≤ 64 := by omega
  have hM1 : 1 ≤ M := by omega
  clear hM
  obtain ⟨T, hT⟩ : ∃ T, T = ((128 : UInt8) :: List.replicate (M - 1) 0) ++ beBytes 8 q := ⟨_, rfl⟩
  have hTl : Hid (T.length = M + 8) := Lib.hid (by rw [hT]; simp [beBytes, beTo_length]; omega)
  have hTf : Hid (([((128 : UInt8) :: List.replicate (M - 1) 0), beBytes 8 q] : List (List UInt8)).flatten = T) := Lib.hid (by rw [hT]; simp)
  rw [← hT] at hTail
  clear hT
  have HST := e_start w s A n c m #[.int .u32 (s.a.toNat : Int), .int .u32 (s.b.toNat : Int), .int .u32 (s.c.toNat : Int), .int .u32 (s.d.toNat : Int), .int .u32 (s.e.toNat : Int), .int .u32 (s.f.toNat : Int), .int .u32 (s.g.toNat : Int), .int .u32 (s.h.toNat : Int), .slice A n c, .int .u64 (m : Int)] _ rfl rfl
  obtain ⟨H0, H1, HB, HS⟩ := HST
  unfold hv at HF
  rw [hv_cells]
  unfold hcells
  go_enter Tryd.func14, Tryd.ntmps14
  go_wp2_with (first
    | (with_reducible refine wpList_load_h rfl (.tmp 1) rfl w.heap.size rfl s A n c m (by with_unfolding_all exact H0) Tryd.underlying27 Tryd.infoH ?_)
    | (go_at_call 31
       refine (HT.out _).mono ?_
       rintro e w3 ⟨rfl, hb3⟩
       have G0 := H0.keep hb3 H0.lt
       have G1 := H1.keep hb3 H1.lt
       have GB := HB.trans (hb3.mono HB.size)
       obtain ⟨_, _, _, _, _, _, _, _, _, k9⟩ := G0.all)
    | (go_at_call 36
       refine (Put_ok none 0 0 0 [] _ _ w3 Sees.none_ (by omega) (by omega) (by omega) (by omega) (by omega) (by omega) Hq0.out).mono ?_
       rintro e w4 ⟨A4, c4, rfl, hown4, hb4⟩
       have F0 := G0.keep hb4 G0.lt
       have F1 := G1.keep hb4 G1.lt
       have FB := GB.trans (hb4.mono GB.size)
       have hs4 := Sees.of_own hown4
       have hs4' : Sees w4 w4.heap.size A4 8 c4 ((beBytes 8 q).map bv) := by simpa using hs4))
  clear hown4 hs4 G0 G1 GB H0 H1 HB HS HT k9
  have hN : ∃ N', (left (r ++ T)).length = N' := ⟨_, rfl⟩
  obtain ⟨N', hN'⟩ := hN
  have HG : Hid (∀ (W : World) (A6 : Option Addr) (c6 : Nat), Below w.heap.size w W → Sees W W.heap.size A6 (M + 8) c6 (T.map bv) → Calls Tryd.prog 33 #[.agg (hcells s A n c m), .slice A6 (M + 8) c6] W (GaveH W (absorb s (r ++ T)) N' (left (r ++ T)) ((m + (M + 8)) % 18446744073709551616))) := Lib.hid fun W A6 c6 hW hs6 =>
    goOn_any A A6 n c (M + 8) c6 m W.heap.size N' r T s W ((h.upTo hW hB).more (Nat.le_trans hB hW.size)) hs6 (Nat.le_refl _) hn (by omega) hN' (L0.keep hW L0.size)
  unfold hcells at HG
  have HN : Hid (∀ (W : World) (t : St), Calls Tryd.prog 37 #[.agg #[.int .u32 (t.a.toNat : Int), .int .u32 (t.b.toNat : Int), .int .u32 (t.c.toNat : Int), .int .u32 (t.d.toNat : Int), .int .u32 (t.e.toNat : Int), .int .u32 (t.f.toNat : Int), .int .u32 (t.g.toNat : Int), .int .u32 (t.h.toNat : Int)]] W fun e w' => e = .returned (.agg ((out32 t).map bv).toArray) ∧ Below W.heap.size W w') := Lib.hid fun W t => numbersBytes_any t W
  have hfld := run_field_state
  generalize absorb s (r ++ T) = t at *
  generalize left (r ++ T) = rest at *
  refine wp_region_noPanic ?_
  refine wp_region_held_drew (S := (fun W => (W.cell? ⟨w.heap.size, 0, none⟩ = some (.int .u32 (s.a.toNat : Int)) ∧ W.cell? ⟨w.heap.size, 1, none⟩ = some (.int .u32 (s.b.toNat : Int)) ∧ W.cell? ⟨w.heap.size, 2, none⟩ = some (.int .u32 (s.c.toNat : Int)) ∧ W.cell? ⟨w.heap.size, 3, none⟩ = some (.int .u32 (s.d.toNat : Int)) ∧ W.cell? ⟨w.heap.size, 4, none⟩ = some (.int .u32 (s.e.toNat : Int)) ∧ W.cell? ⟨w.heap.size, 5, none⟩ = some (.int .u32 (s.f.toNat : Int)) ∧ W.cell? ⟨w.heap.size, 6, none⟩ = some (.int .u32 (s.g.toNat : Int)) ∧ W.cell? ⟨w.heap.size, 7, none⟩ = some (.int .u32 (s.h.toNat : Int)) ∧ W.cell? ⟨w.heap.size, 8, none⟩ = some (.slice A n c) ∧ W.cell? ⟨w.heap.size, 9, none⟩ = some (.int .u64 (m : Int))) ∧ Below (w.heap.size + 1) w4 W)) (by kernel_rfl) (by (try dsimp only); (first | exact ⟨HoldsH.all (W := World.drew w4) F0, (Below.refl _ w4).drew⟩ | exact ⟨(F0.keep hb9 (by omega)).all, hb9⟩ | (have hb' := Below.trans (‹_ ∧ Below (w.heap.size + 1) w4 _›).2 (hb8.mono (Nat.le_trans F0.lt (‹_ ∧ Below (w.heap.size + 1) w4 _›).2.size)); exact ⟨(F0.keep hb' (by omega)).all, hb'⟩) | (have hb' := Below.trans (‹_ ∧ Below (w.heap.size + 1) w4 _›).2 (hb7.mono (Nat.le_trans F0.lt (‹_ ∧ Below (w.heap.size + 1) w4 _›).2.size)); exact ⟨(F0.keep hb' (by omega)).all, hb'⟩) | (have hb' := Below.trans (‹_ ∧ Below (w.heap.size + 1) w4 _›).2 (hb6.mono (Nat.le_trans F0.lt (‹_ ∧ Below (w.heap.size + 1) w4 _›).2.size)); exact ⟨(F0.keep hb' (by omega)).all, hb'⟩) | (have hb' := Below.alloc (‹_ ∧ Below (w.heap.size + 1) w4 _›).2 (Nat.le_trans F0.lt (‹_ ∧ Below (w.heap.size + 1) w4 _›).2.size) (.cells #[.slice A5 M c5, .slice A4 8 c4] 24); exact ⟨(F0.keep hb' (by omega)).all, hb'⟩) | (have hb' := Below.trans (‹_ ∧ Below (w.heap.size + 1) w4 _›).2 (hb5.mono (Nat.le_trans F0.lt (‹_ ∧ Below (w.heap.size + 1) w4 _›).2.size)); exact ⟨(F0.keep hb' (by omega)).all, hb'⟩))) (fun hHeld => ?_)
  refine wpAnyH_take (i := 0) (v := ?_) rfl (by kernel_rfl) (by kernel_rfl) (by kernel_rfl) (fun _ _ _ h => h) (Or.inl ⟨by rfl, ?_⟩) (by assumption) ?_
  rotate_left
  · intro w hSw; (try dsimp only at hSw); go_simp <;> with_reducible rfl
  try simp only [Act.put, List.getElem_toArray, List.getElem_cons_succ, List.getElem_cons_zero, List.setIfInBounds_toArray, List.set_cons_zero, List.set_cons_succ]
  refine wpAnyH_take (i := 1) (v := ?_) rfl (by kernel_rfl) (by kernel_rfl) (by kernel_rfl) (fun _ _ _ h => h) (Or.inl ⟨by rfl, ?_⟩) (by assumption) ?_
  rotate_left
  · intro w hSw; (try dsimp only at hSw); go_simp <;> with_reducible rfl
  try simp only [Act.put, List.getElem_toArray, List.getElem_cons_succ, List.getElem_cons_zero, List.setIfInBounds_toArray, List.set_cons_zero, List.set_cons_succ]
  refine wpAnyH_take (i := 3) (v := ?_) rfl (by kernel_rfl) (by kernel_rfl) (by kernel_rfl) (fun _ _ _ h => h) (Or.inl ⟨by rfl, ?_⟩) (by assumption) ?_
  rotate_left
  · intro w hSw; (try dsimp only at hSw); go_simp <;> with_reducible rfl
  try simp only [Act.put, List.getElem_toArray, List.getElem_cons_succ, List.getElem_cons_zero, List.setIfInBounds_toArray, List.set_cons_zero, List.set_cons_succ]
  refine wpAnyH_ready (rs := [2]) (by kernel_rfl) (by simp) ?_
  refine AllReadyH.cons rfl (fun K hK => ?_) ?_
  · simp only [List.getElem_toArray, List.getElem_cons_succ, List.getElem_cons_zero]
    go_simp
    (first | (go_at_call 39; refine (HF.out _).mono ?_; rintro e w5 ⟨A5, c5, rfl, hs5, hb5⟩; have E1 := HoldsB.keep (W := World.drew w4) F1 hb5 F1.lt; have EB := FB.drew.trans (hb5.mono FB.size); have hs4a := (hs4'.drew.below hb5).more (show w4.heap.size ≤ w5.heap.size from hb5.size)) | (go_at_call 38; refine (Concat_as _ 2 2 (w5.heap.size + 1) [((128 : UInt8) :: List.replicate (M - 1) 0), beBytes 8 q] T (M + 8) _ hTf.out hTl.out (SeesL.two w5 _ w5.heap.size rfl hs5 hs4a) (by rw [World.size_alloc]; exact Nat.le_refl _) (by omega) (by omega)).mono ?_; rintro e w6 ⟨A6, c6, rfl, hown6, hb6⟩; have hb6' := Below.trans ((Below.refl w5.heap.size w5).alloc (Nat.le_refl _) _) (hb6.mono (by rw [World.size_alloc]; omega)); have D1 := E1.keep hb6' E1.lt; have DB := EB.trans (hb6'.mono EB.size); have hs6 := Sees.of_own hown6) | (go_at_call 33; (with_reducible refine (HG.out _ A6 c6 DB hs6).mono ?_); rintro e w7 ⟨A7, c7, rfl, hs7, hb7⟩; unfold hv; have C1 := D1.keep hb7 D1.lt; have CB := DB.trans (hb7.mono DB.size)) | (go_at_call 37; (with_reducible refine (HN.out _ t).mono ?_); rintro e w8 ⟨rfl, hb8⟩; have B1 := C1.keep hb8 C1.lt; have BB := CB.trans (hb8.mono CB.size)) | (refine step_store_b rfl 32 (.tmp 2) (.tmp 25) rfl (w.heap.size + 1) (out32 t) (out32_length t) rfl rfl _ B1 Tryd.infoB32 (by simp) (w.heap.size + 1) w4 (‹_ ∧ Below (w.heap.size + 1) w4 _›).2 (Nat.le_refl _) ?_; intro w9 Hg ho9 hs9 hb9))
    go_wp2_with fail
    refine hK.out _ _ ?_ (fun hHeld => ?_)
    · (try dsimp only); (first | exact ⟨HoldsH.all (W := World.drew w4) F0, (Below.refl _ w4).drew⟩ | exact ⟨(F0.keep hb9 (by omega)).all, hb9⟩ | (have hb' := Below.trans (‹_ ∧ Below (w.heap.size + 1) w4 _›).2 (hb8.mono (Nat.le_trans F0.lt (‹_ ∧ Below (w.heap.size + 1) w4 _›).2.size)); exact ⟨(F0.keep hb' (by omega)).all, hb'⟩) | (have hb' := Below.trans (‹_ ∧ Below (w.heap.size + 1) w4 _›).2 (hb7.mono (Nat.le_trans F0.lt (‹_ ∧ Below (w.heap.size + 1) w4 _›).2.size)); exact ⟨(F0.keep hb' (by omega)).all, hb'⟩) | (have hb' := Below.trans (‹_ ∧ Below (w.heap.size + 1) w4 _›).2 (hb6.mono (Nat.le_trans F0.lt (‹_ ∧ Below (w.heap.size + 1) w4 _›).2.size)); exact ⟨(F0.keep hb' (by omega)).all, hb'⟩) | (have hb' := Below.alloc (‹_ ∧ Below (w.heap.size + 1) w4 _›).2 (Nat.le_trans F0.lt (‹_ ∧ Below (w.heap.size + 1) w4 _›).2.size) (.cells #[.slice A5 M c5, .slice A4 8 c4] 24); exact ⟨(F0.keep hb' (by omega)).all, hb'⟩) | (have hb' := Below.trans (‹_ ∧ Below (w.heap.size + 1) w4 _›).2 (hb5.mono (Nat.le_trans F0.lt (‹_ ∧ Below (w.heap.size + 1) w4 _›).2.size)); exact ⟨(F0.keep hb' (by omega)).all, hb'⟩))
    clear hK K
    try simp only [Act.put, List.getElem_toArray, List.getElem_cons_succ, List.getElem_cons_zero, List.setIfInBounds_toArray, List.set_cons_zero, List.set_cons_succ]
    refine wpAnyH_ready (rs := [4]) (by kernel_rfl) (by simp) ?_
    refine AllReadyH.cons rfl (fun K hK => ?_) ?_
    · simp only [List.getElem_toArray, List.getElem_cons_succ, List.getElem_cons_zero]
      go_simp
      refine hK.out _ _ ?_ (fun hHeld => ?_)
      · (try dsimp only); (first | exact ⟨HoldsH.all (W := World.drew w4) F0, (Below.refl _ w4).drew⟩ | exact ⟨(F0.keep hb9 (by omega)).all, hb9⟩ | (have hb' := Below.trans (‹_ ∧ Below (w.heap.size + 1) w4 _›).2 (hb8.mono (Nat.le_trans F0.lt (‹_ ∧ Below (w.heap.size + 1) w4 _›).2.size)); exact ⟨(F0.keep hb' (by omega)).all, hb'⟩) | (have hb' := Below.trans (‹_ ∧ Below (w.heap.size + 1) w4 _›).2 (hb7.mono (Nat.le_trans F0.lt (‹_ ∧ Below (w.heap.size + 1) w4 _›).2.size)); exact ⟨(F0.keep hb' (by omega)).all, hb'⟩) | (have hb' := Below.trans (‹_ ∧ Below (w.heap.size + 1) w4 _›).2 (hb6.mono (Nat.le_trans F0.lt (‹_ ∧ Below (w.heap.size + 1) w4 _›).2.size)); exact ⟨(F0.keep hb' (by omega)).all, hb'⟩) | (have hb' := Below.alloc (‹_ ∧ Below (w.heap.size + 1) w4 _›).2 (Nat.le_trans F0.lt (‹_ ∧ Below (w.heap.size + 1) w4 _›).2.size) (.cells #[.slice A5 M c5, .slice A4 8 c4] 24); exact ⟨(F0.keep hb' (by omega)).all, hb'⟩) | (have hb' := Below.trans (‹_ ∧ Below (w.heap.size + 1) w4 _›).2 (hb5.mono (Nat.le_trans F0.lt (‹_ ∧ Below (w.heap.size + 1) w4 _›).2.size)); exact ⟨(F0.keep hb' (by omega)).all, hb'⟩))
      clear hK K
      try simp only [Act.put, List.getElem_toArray, List.getElem_cons_succ, List.getElem_cons_zero, List.setIfInBounds_toArray, List.set_cons_zero, List.set_cons_succ]
      refine wpAnyH_ready (rs := [5]) (by kernel_rfl) (by simp) ?_
      refine AllReadyH.cons rfl (fun K hK => ?_) ?_
      · simp only [List.getElem_toArray, List.getElem_cons_succ, List.getElem_cons_zero]
        go_simp
        (first | (go_at_call 39; refine (HF.out _).mono ?_; rintro e w5 ⟨A5, c5, rfl, hs5, hb5⟩; have E1 := HoldsB.keep (W := World.drew w4) F1 hb5 F1.lt; have EB := FB.drew.trans (hb5.mono FB.size); have hs4a := (hs4'.drew.below hb5).more (show w4.heap.size ≤ w5.heap.size from hb5.size)) | (go_at_call 38; refine (Concat_as _ 2 2 (w5.heap.size + 1) [((128 : UInt8) :: List.replicate (M - 1) 0), beBytes 8 q] T (M + 8) _ hTf.out hTl.out (SeesL.two w5 _ w5.heap.size rfl hs5 hs4a) (by rw [World.size_alloc]; exact Nat.le_refl _) (by omega) (by omega)).mono ?_; rintro e w6 ⟨A6, c6, rfl, hown6, hb6⟩; have hb6' := Below.trans ((Below.refl w5.heap.size w5).alloc (Nat.le_refl _) _) (hb6.mono (by rw [World.size_alloc]; omega)); have D1 := E1.keep hb6' E1.lt; have DB := EB.trans (hb6'.mono EB.size); have hs6 := Sees.of_own hown6) | (go_at_call 33; (with_reducible refine (HG.out _ A6 c6 DB hs6).mono ?_); rintro e w7 ⟨A7, c7, rfl, hs7, hb7⟩; unfold hv; have C1 := D1.keep hb7 D1.lt; have CB := DB.trans (hb7.mono DB.size)) | (go_at_call 37; (with_reducible refine (HN.out _ t).mono ?_); rintro e w8 ⟨rfl, hb8⟩; have B1 := C1.keep hb8 C1.lt; have BB := CB.trans (hb8.mono CB.size)) | (refine step_store_b rfl 32 (.tmp 2) (.tmp 25) rfl (w.heap.size + 1) (out32 t) (out32_length t) rfl rfl _ B1 Tryd.infoB32 (by simp) (w.heap.size + 1) w4 (‹_ ∧ Below (w.heap.size + 1) w4 _›).2 (Nat.le_refl _) ?_; intro w9 Hg ho9 hs9 hb9))
        go_wp2_with fail
        refine hK.out _ _ ?_ (fun hHeld => ?_)
        · (try dsimp only); (first | exact ⟨HoldsH.all (W := World.drew w4) F0, (Below.refl _ w4).drew⟩ | exact ⟨(F0.keep hb9 (by omega)).all, hb9⟩ | (have hb' := Below.trans (‹_ ∧ Below (w.heap.size + 1) w4 _›).2 (hb8.mono (Nat.le_trans F0.lt (‹_ ∧ Below (w.heap.size + 1) w4 _›).2.size)); exact ⟨(F0.keep hb' (by omega)).all, hb'⟩) | (have hb' := Below.trans (‹_ ∧ Below (w.heap.size + 1) w4 _›).2 (hb7.mono (Nat.le_trans F0.lt (‹_ ∧ Below (w.heap.size + 1) w4 _›).2.size)); exact ⟨(F0.keep hb' (by omega)).all, hb'⟩) | (have hb' := Below.trans (‹_ ∧ Below (w.heap.size + 1) w4 _›).2 (hb6.mono (Nat.le_trans F0.lt (‹_ ∧ Below (w.heap.size + 1) w4 _›).2.size)); exact ⟨(F0.keep hb' (by omega)).all, hb'⟩) | (have hb' := Below.alloc (‹_ ∧ Below (w.heap.size + 1) w4 _›).2 (Nat.le_trans F0.lt (‹_ ∧ Below (w.heap.size + 1) w4 _›).2.size) (.cells #[.slice A5 M c5, .slice A4 8 c4] 24); exact ⟨(F0.keep hb' (by omega)).all, hb'⟩) | (have hb' := Below.trans (‹_ ∧ Below (w.heap.size + 1) w4 _›).2 (hb5.mono (Nat.le_trans F0.lt (‹_ ∧ Below (w.heap.size + 1) w4 _›).2.size)); exact ⟨(F0.keep hb' (by omega)).all, hb'⟩))
        clear hK K
        try simp only [Act.put, List.getElem_toArray, List.getElem_cons_succ, List.getElem_cons_zero, List.setIfInBounds_toArray, List.set_cons_zero, List.set_cons_succ]
        refine wpAnyH_ready (rs := [6]) (by kernel_rfl) (by simp) ?_
        refine AllReadyH.cons rfl (fun K hK => ?_) ?_
        · simp only [List.getElem_toArray, List.getElem_cons_succ, List.getElem_cons_zero]
          go_simp
          (first | (go_at_call 39; refine (HF.out _).mono ?_; rintro e w5 ⟨A5, c5, rfl, hs5, hb5⟩; have E1 := HoldsB.keep (W := World.drew w4) F1 hb5 F1.lt; have EB := FB.drew.trans (hb5.mono FB.size); have hs4a := (hs4'.drew.below hb5).more (show w4.heap.size ≤ w5.heap.size from hb5.size)) | (go_at_call 38; refine (Concat_as _ 2 2 (w5.heap.size + 1) [((128 : UInt8) :: List.replicate (M - 1) 0), beBytes 8 q] T (M + 8) _ hTf.out hTl.out (SeesL.two w5 _ w5.heap.size rfl hs5 hs4a) (by rw [World.size_alloc]; exact Nat.le_refl _) (by omega) (by omega)).mono ?_; rintro e w6 ⟨A6, c6, rfl, hown6, hb6⟩; have hb6' := Below.trans ((Below.refl w5.heap.size w5).alloc (Nat.le_refl _) _) (hb6.mono (by rw [World.size_alloc]; omega)); have D1 := E1.keep hb6' E1.lt; have DB := EB.trans (hb6'.mono EB.size); have hs6 := Sees.of_own hown6) | (go_at_call 33; (with_reducible refine (HG.out _ A6 c6 DB hs6).mono ?_); rintro e w7 ⟨A7, c7, rfl, hs7, hb7⟩; unfold hv; have C1 := D1.keep hb7 D1.lt; have CB := DB.trans (hb7.mono DB.size)) | (go_at_call 37; (with_reducible refine (HN.out _ t).mono ?_); rintro e w8 ⟨rfl, hb8⟩; have B1 := C1.keep hb8 C1.lt; have BB := CB.trans (hb8.mono CB.size)) | (refine step_store_b rfl 32 (.tmp 2) (.tmp 25) rfl (w.heap.size + 1) (out32 t) (out32_length t) rfl rfl _ B1 Tryd.infoB32 (by simp) (w.heap.size + 1) w4 (‹_ ∧ Below (w.heap.size + 1) w4 _›).2 (Nat.le_refl _) ?_; intro w9 Hg ho9 hs9 hb9))
          go_wp2_with fail
          refine hK.out _ _ ?_ (fun hHeld => ?_)
          · (try dsimp only); (first | exact ⟨HoldsH.all (W := World.drew w4) F0, (Below.refl _ w4).drew⟩ | exact ⟨(F0.keep hb9 (by omega)).all, hb9⟩ | (have hb' := Below.trans (‹_ ∧ Below (w.heap.size + 1) w4 _›).2 (hb8.mono (Nat.le_trans F0.lt (‹_ ∧ Below (w.heap.size + 1) w4 _›).2.size)); exact ⟨(F0.keep hb' (by omega)).all, hb'⟩) | (have hb' := Below.trans (‹_ ∧ Below (w.heap.size + 1) w4 _›).2 (hb7.mono (Nat.le_trans F0.lt (‹_ ∧ Below (w.heap.size + 1) w4 _›).2.size)); exact ⟨(F0.keep hb' (by omega)).all, hb'⟩) | (have hb' := Below.trans (‹_ ∧ Below (w.heap.size + 1) w4 _›).2 (hb6.mono (Nat.le_trans F0.lt (‹_ ∧ Below (w.heap.size + 1) w4 _›).2.size)); exact ⟨(F0.keep hb' (by omega)).all, hb'⟩) | (have hb' := Below.alloc (‹_ ∧ Below (w.heap.size + 1) w4 _›).2 (Nat.le_trans F0.lt (‹_ ∧ Below (w.heap.size + 1) w4 _›).2.size) (.cells #[.slice A5 M c5, .slice A4 8 c4] 24); exact ⟨(F0.keep hb' (by omega)).all, hb'⟩) | (have hb' := Below.trans (‹_ ∧ Below (w.heap.size + 1) w4 _›).2 (hb5.mono (Nat.le_trans F0.lt (‹_ ∧ Below (w.heap.size + 1) w4 _›).2.size)); exact ⟨(F0.keep hb' (by omega)).all, hb'⟩))
          clear hK K
          try simp only [Act.put, List.getElem_toArray, List.getElem_cons_succ, List.getElem_cons_zero, List.setIfInBounds_toArray, List.set_cons_zero, List.set_cons_succ]
          refine wpAnyH_take (i := 7) (v := ?_) rfl (by kernel_rfl) (by kernel_rfl) (by kernel_rfl) (fun _ _ _ h => h) (Or.inl ⟨by rfl, ?_⟩) (by assumption) ?_
          rotate_left
          · intro w hSw; (try dsimp only at hSw); go_simp <;> with_reducible rfl
          try simp only [Act.put, List.getElem_toArray, List.getElem_cons_succ, List.getElem_cons_zero, List.setIfInBounds_toArray, List.set_cons_zero, List.set_cons_succ]
          refine wpAnyH_ready (rs := [8]) (by kernel_rfl) (by simp) ?_
          refine AllReadyH.cons rfl (fun K hK => ?_) ?_
          · simp only [List.getElem_toArray, List.getElem_cons_succ, List.getElem_cons_zero]
            go_simp
            (first | (go_at_call 39; refine (HF.out _).mono ?_; rintro e w5 ⟨A5, c5, rfl, hs5, hb5⟩; have E1 := HoldsB.keep (W := World.drew w4) F1 hb5 F1.lt; have EB := FB.drew.trans (hb5.mono FB.size); have hs4a := (hs4'.drew.below hb5).more (show w4.heap.size ≤ w5.heap.size from hb5.size)) | (go_at_call 38; refine (Concat_as _ 2 2 (w5.heap.size + 1) [((128 : UInt8) :: List.replicate (M - 1) 0), beBytes 8 q] T (M + 8) _ hTf.out hTl.out (SeesL.two w5 _ w5.heap.size rfl hs5 hs4a) (by rw [World.size_alloc]; exact Nat.le_refl _) (by omega) (by omega)).mono ?_; rintro e w6 ⟨A6, c6, rfl, hown6, hb6⟩; have hb6' := Below.trans ((Below.refl w5.heap.size w5).alloc (Nat.le_refl _) _) (hb6.mono (by rw [World.size_alloc]; omega)); have D1 := E1.keep hb6' E1.lt; have DB := EB.trans (hb6'.mono EB.size); have hs6 := Sees.of_own hown6) | (go_at_call 33; (with_reducible refine (HG.out _ A6 c6 DB hs6).mono ?_); rintro e w7 ⟨A7, c7, rfl, hs7, hb7⟩; unfold hv; have C1 := D1.keep hb7 D1.lt; have CB := DB.trans (hb7.mono DB.size)) | (go_at_call 37; (with_reducible refine (HN.out _ t).mono ?_); rintro e w8 ⟨rfl, hb8⟩; have B1 := C1.keep hb8 C1.lt; have BB := CB.trans (hb8.mono CB.size)) | (refine step_store_b rfl 32 (.tmp 2) (.tmp 25) rfl (w.heap.size + 1) (out32 t) (out32_length t) rfl rfl _ B1 Tryd.infoB32 (by simp) (w.heap.size + 1) w4 (‹_ ∧ Below (w.heap.size + 1) w4 _›).2 (Nat.le_refl _) ?_; intro w9 Hg ho9 hs9 hb9))
            go_wp2_with fail
            refine hK.out _ _ ?_ (fun hHeld => ?_)
            · (try dsimp only); (first | exact ⟨HoldsH.all (W := World.drew w4) F0, (Below.refl _ w4).drew⟩ | exact ⟨(F0.keep hb9 (by omega)).all, hb9⟩ | (have hb' := Below.trans (‹_ ∧ Below (w.heap.size + 1) w4 _›).2 (hb8.mono (Nat.le_trans F0.lt (‹_ ∧ Below (w.heap.size + 1) w4 _›).2.size)); exact ⟨(F0.keep hb' (by omega)).all, hb'⟩) | (have hb' := Below.trans (‹_ ∧ Below (w.heap.size + 1) w4 _›).2 (hb7.mono (Nat.le_trans F0.lt (‹_ ∧ Below (w.heap.size + 1) w4 _›).2.size)); exact ⟨(F0.keep hb' (by omega)).all, hb'⟩) | (have hb' := Below.trans (‹_ ∧ Below (w.heap.size + 1) w4 _›).2 (hb6.mono (Nat.le_trans F0.lt (‹_ ∧ Below (w.heap.size + 1) w4 _›).2.size)); exact ⟨(F0.keep hb' (by omega)).all, hb'⟩) | (have hb' := Below.alloc (‹_ ∧ Below (w.heap.size + 1) w4 _›).2 (Nat.le_trans F0.lt (‹_ ∧ Below (w.heap.size + 1) w4 _›).2.size) (.cells #[.slice A5 M c5, .slice A4 8 c4] 24); exact ⟨(F0.keep hb' (by omega)).all, hb'⟩) | (have hb' := Below.trans (‹_ ∧ Below (w.heap.size + 1) w4 _›).2 (hb5.mono (Nat.le_trans F0.lt (‹_ ∧ Below (w.heap.size + 1) w4 _›).2.size)); exact ⟨(F0.keep hb' (by omega)).all, hb'⟩))
            clear hK K
            try simp only [Act.put, List.getElem_toArray, List.getElem_cons_succ, List.getElem_cons_zero, List.setIfInBounds_toArray, List.set_cons_zero, List.set_cons_succ]
            refine wpAnyH_ready (rs := [9]) (by kernel_rfl) (by simp) ?_
            refine AllReadyH.cons rfl (fun K hK => ?_) ?_
            · skip
              (first | (go_at_call 39; refine (HF.out _).mono ?_; rintro e w5 ⟨A5, c5, rfl, hs5, hb5⟩; have E1 := HoldsB.keep (W := World.drew w4) F1 hb5 F1.lt; have EB := FB.drew.trans (hb5.mono FB.size); have hs4a := (hs4'.drew.below hb5).more (show w4.heap.size ≤ w5.heap.size from hb5.size)) | (go_at_call 38; refine (Concat_as _ 2 2 (w5.heap.size + 1) [((128 : UInt8) :: List.replicate (M - 1) 0), beBytes 8 q] T (M + 8) _ hTf.out hTl.out (SeesL.two w5 _ w5.heap.size rfl hs5 hs4a) (by rw [World.size_alloc]; exact Nat.le_refl _) (by omega) (by omega)).mono ?_; rintro e w6 ⟨A6, c6, rfl, hown6, hb6⟩; have hb6' := Below.trans ((Below.refl w5.heap.size w5).alloc (Nat.le_refl _) _) (hb6.mono (by rw [World.size_alloc]; omega)); have D1 := E1.keep hb6' E1.lt; have DB := EB.trans (hb6'.mono EB.size); have hs6 := Sees.of_own hown6) | (go_at_call 33; (with_reducible refine (HG.out _ A6 c6 DB hs6).mono ?_); rintro e w7 ⟨A7, c7, rfl, hs7, hb7⟩; unfold hv; have C1 := D1.keep hb7 D1.lt; have CB := DB.trans (hb7.mono DB.size)) | (go_at_call 37; (with_reducible refine (HN.out _ t).mono ?_); rintro e w8 ⟨rfl, hb8⟩; have B1 := C1.keep hb8 C1.lt; have BB := CB.trans (hb8.mono CB.size)) | (refine step_store_b rfl 32 (.tmp 2) (.tmp 25) rfl (w.heap.size + 1) (out32 t) (out32_length t) rfl rfl _ B1 Tryd.infoB32 (by simp) (w.heap.size + 1) w4 (‹_ ∧ Below (w.heap.size + 1) w4 _›).2 (Nat.le_refl _) ?_; intro w9 Hg ho9 hs9 hb9))
              refine hK.out _ _ ?_ (fun hHeld => ?_)
              · (try dsimp only); (first | exact ⟨HoldsH.all (W := World.drew w4) F0, (Below.refl _ w4).drew⟩ | exact ⟨(F0.keep hb9 (by omega)).all, hb9⟩ | (have hb' := Below.trans (‹_ ∧ Below (w.heap.size + 1) w4 _›).2 (hb8.mono (Nat.le_trans F0.lt (‹_ ∧ Below (w.heap.size + 1) w4 _›).2.size)); exact ⟨(F0.keep hb' (by omega)).all, hb'⟩) | (have hb' := Below.trans (‹_ ∧ Below (w.heap.size + 1) w4 _›).2 (hb7.mono (Nat.le_trans F0.lt (‹_ ∧ Below (w.heap.size + 1) w4 _›).2.size)); exact ⟨(F0.keep hb' (by omega)).all, hb'⟩) | (have hb' := Below.trans (‹_ ∧ Below (w.heap.size + 1) w4 _›).2 (hb6.mono (Nat.le_trans F0.lt (‹_ ∧ Below (w.heap.size + 1) w4 _›).2.size)); exact ⟨(F0.keep hb' (by omega)).all, hb'⟩) | (have hb' := Below.alloc (‹_ ∧ Below (w.heap.size + 1) w4 _›).2 (Nat.le_trans F0.lt (‹_ ∧ Below (w.heap.size + 1) w4 _›).2.size) (.cells #[.slice A5 M c5, .slice A4 8 c4] 24); exact ⟨(F0.keep hb' (by omega)).all, hb'⟩) | (have hb' := Below.trans (‹_ ∧ Below (w.heap.size + 1) w4 _›).2 (hb5.mono (Nat.le_trans F0.lt (‹_ ∧ Below (w.heap.size + 1) w4 _›).2.size)); exact ⟨(F0.keep hb' (by omega)).all, hb'⟩))
              clear hK K
              try simp only [Act.put, List.getElem_toArray, List.getElem_cons_succ, List.getElem_cons_zero, List.setIfInBounds_toArray, List.set_cons_zero, List.set_cons_succ]
              refine wpAnyH_take (i := 10) (v := ?_) rfl (by kernel_rfl) (by kernel_rfl) (by kernel_rfl) (fun _ _ _ h => h) (Or.inl ⟨by rfl, ?_⟩) (by assumption) ?_
              rotate_left
              · intro w hSw; (try dsimp only at hSw); go_simp <;> with_reducible rfl
              try simp only [Act.put, List.getElem_toArray, List.getElem_cons_succ, List.getElem_cons_zero, List.setIfInBounds_toArray, List.set_cons_zero, List.set_cons_succ]
              refine wpAnyH_done (by kernel_rfl) ?_ _
              refine NoPanic.normal ?_
              have HB9 := FB.trans (hb9.mono (Nat.le_succ _))
              go_wp2
              exact bodyPost_ret (results_cell_tmp rfl _ _ (w.heap.size + 1) _ _ _ _ rfl Hg Tryd.underlying32 rfl (by rw [Tryd.infoB32, (b_cells _ (out32_length t)).1])) rfl ⟨by rw [hTail.out]; rfl, HB9⟩
            exact AllReadyH.nil
          exact AllReadyH.nil
        exact AllReadyH.nil
      exact AllReadyH.nil
    exact AllReadyH.nil
  exact AllReadyH.nil

theorem builtB32 : Tryd.prog.built 32 [] = some ((List.replicate 32 (0 : UInt8)).map bv).toArray := by kernel_rfl

set_option maxRecDepth 100000 in
set_option maxHeartbeats 1000000 in
theorem End_bad (A : Option Addr) (n c m : Nat) (s : St) (w : World) (hn : n ≤ 1000000) (hmay : ((n : Int) == (m : Int) % 64) = false) :
    Calls Tryd.prog 14 #[hv s A n c m] w (GaveE w (List.replicate 32 0) 1) := by
  have HT : Hid (∀ W, Calls Tryd.prog 31 #[hv s A n c m] W fun e w' => e = .returned (.bool false) ∧ Below W.heap.size W w') := Lib.hid fun W => by
    have := isText_any s A n c m W (by omega)
    rwa [hmay] at this
  clear hmay
  have HST := e_start w s A n c m #[.int .u32 (s.a.toNat : Int), .int .u32 (s.b.toNat : Int), .int .u32 (s.c.toNat : Int), .int .u32 (s.d.toNat : Int), .int .u32 (s.e.toNat : Int), .int .u32 (s.f.toNat : Int), .int .u32 (s.g.toNat : Int), .int .u32 (s.h.toNat : Int), .slice A n c, .int .u64 (m : Int)] _ rfl rfl
  obtain ⟨H0, H1, HB, HS⟩ := HST
  rw [hv_cells]
  unfold hcells
  go_enter Tryd.func14, Tryd.ntmps14
  go_wp2_with (first
    | (with_reducible refine wpList_load_h rfl (.tmp 1) rfl w.heap.size rfl s A n c m (by with_unfolding_all exact H0) Tryd.underlying27 Tryd.infoH ?_)
    | (go_at_call 31
       refine (HT.out _).mono ?_
       rintro e w3 ⟨rfl, hb3⟩
       have G1 := H1.keep hb3 H1.lt
       have GB := HB.trans (hb3.mono HB.size))
    | (with_reducible refine wpList_buildTo rfl 32 #[] rfl (some 9) rfl (((List.replicate 32 (0 : UInt8)).map bv).toArray) (by with_unfolding_all exact builtB32) ?_)
    | (with_reducible refine wpList_store_b rfl 32 (.tmp 2) (.tmp 9) rfl (w.heap.size + 1) (List.replicate 32 0) (by simp) rfl rfl _ G1 Tryd.infoB32 (by simp) w.heap.size w GB (by omega) ?_; intro w4 Hg _ _ hb4))
  exact bodyPost_ret (results_cell_tmp rfl _ _ (w.heap.size + 1) _ _ _ _ rfl Hg Tryd.underlying32 rfl (by rw [Tryd.infoB32, (b_cells _ (by simp)).1])) rfl ⟨rfl, hb4⟩
end Go.Proofs.YtppaffamlfghjaaDoor
