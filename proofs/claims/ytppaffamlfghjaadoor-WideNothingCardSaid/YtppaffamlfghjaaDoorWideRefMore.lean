/-
  A text goes on: the document's way. May, More where it may not.
-/
import Derived.Test.YtppaffamlfghjaaDoorWideRef
import Derived.Test.YtppaffamlfghjaaDoorWideAppend
import Derived.Deep.RegionHeld3
namespace Go.Proofs.YtppaffamlfghjaaDoor
open Go.RowKit

set_option maxRecDepth 100000 in
theorem May_any (s : St) (A : Option Addr) (n c m : Nat) (w : World) (hn : n ≤ 2147483647) :
    Calls Tryd.prog 42 #[hv s A n c m] w fun e w' => e = .returned (.bool (decide (n < 128) && ((n : Int) == (m : Int) % 128))) ∧ Below w.heap.size w w' := by
  unfold hv
  by_cases h : n < 128
  · have h1 : (n : Int) < 128 := by omega
    rw [decide_eq_true h, Bool.true_and]
    go_enter Tryd.func42, Tryd.ntmps42
    go_wp2
    go_ret
    exact ⟨rfl, (Below.refl _ _).alloc (Nat.le_refl _) _⟩
  · have h1 : ¬ (n : Int) < 128 := by omega
    rw [decide_eq_false h, Bool.false_and]
    go_enter Tryd.func42, Tryd.ntmps42
    go_wp2
    go_ret
    exact ⟨rfl, (Below.refl _ _).alloc (Nat.le_refl _) _⟩

/-- Ten cells. -/
def TenAt (W : World) (g : Nat) (s : St) (A : Option Addr) (n c m : Nat) : Prop := W.cell? ⟨g, 0, none⟩ = some (.int .u64 (s.a.toNat : Int)) ∧ W.cell? ⟨g, 1, none⟩ = some (.int .u64 (s.b.toNat : Int)) ∧ W.cell? ⟨g, 2, none⟩ = some (.int .u64 (s.c.toNat : Int)) ∧ W.cell? ⟨g, 3, none⟩ = some (.int .u64 (s.d.toNat : Int)) ∧
    W.cell? ⟨g, 4, none⟩ = some (.int .u64 (s.e.toNat : Int)) ∧ W.cell? ⟨g, 5, none⟩ = some (.int .u64 (s.f.toNat : Int)) ∧ W.cell? ⟨g, 6, none⟩ = some (.int .u64 (s.g.toNat : Int)) ∧ W.cell? ⟨g, 7, none⟩ = some (.int .u64 (s.h.toNat : Int)) ∧ W.cell? ⟨g, 8, none⟩ = some (.slice A n c) ∧ W.cell? ⟨g, 9, none⟩ = some (.int .u64 (m : Int))

theorem own_empty (W : World) (g : Nat) (e : TypeId) (h : W.heap[g]? = some (.cells #[] e (0, 0))) : W.ownsRow g e 1 (.slice (some ⟨g, 0, none⟩) 0 0) 0 [] :=
  ⟨rfl, .inr ⟨g, 0, #[], rfl, Nat.le_refl _, h, Nat.le_refl _, by simp [maxLen], rfl, rfl⟩⟩

theorem heap_alloc_other (W : World) (o : Obj) {b : Nat} (hb : b < W.heap.size) : (W.alloc o).heap[b]? = W.heap[b]? := by
  simp only [World.alloc, Array.getElem?_push]
  rw [if_neg (Nat.ne_of_lt hb)]

/-- The two new blocks, in either order. -/
theorem new_two (W : World) (o1 o2 : Obj) : ((W.alloc o1).alloc o2).heap[W.heap.size]? = some o1 ∧ ((W.alloc o1).alloc o2).heap[W.heap.size + 1]? = some o2 ∧ ((W.alloc o1).alloc o2).heap.size = W.heap.size + 1 + 1 := by
  have e1 : (W.alloc o1).heap.size = W.heap.size + 1 := World.size_alloc ..
  refine ⟨heap_alloc2_old W o1 o2, ?_, by rw [World.size_alloc, e1]⟩
  have := heap_alloc_new (W.alloc o1) o2
  rwa [e1] at this

set_option maxRecDepth 100000 in
set_option maxHeartbeats 4000000 in
theorem RMore_bad (A A2 : Option Addr) (n c n2 c2 m B : Nat) (r : List UInt8) (s : St) (w : World) (h : Sees w B A n c (r.map bv)) (hB : B ≤ w.heap.size) (hn : n ≤ 1000000) (hmay : (decide (n < 128) && ((n : Int) == (m : Int) % 128)) = false) :
    Calls Tryd.prog 23 #[hv s A n c m, .slice A2 n2 c2] w fun e w' => ∃ A' c', e = .returned (.tuple #[hv s A' n c' m, .int .i64 1]) ∧ Sees w' w'.heap.size A' n c' (r.map bv) ∧ Below w.heap.size w w' := by
  obtain ⟨i0, hi0, hz0, hz1, hz2⟩ := info_parts Tryd.infoU8
  have HM : Hid (∀ W, Calls Tryd.prog 42 #[hv s A n c m] W fun e w' => e = .returned (.bool false) ∧ Below W.heap.size W w') := Lib.hid fun W => by
    have := May_any s A n c m W (by omega)
    rwa [hmay] at this
  clear hmay
  have HST := h_start w s A n c m #[.int .u64 (s.a.toNat : Int), .int .u64 (s.b.toNat : Int), .int .u64 (s.c.toNat : Int), .int .u64 (s.d.toNat : Int), .int .u64 (s.e.toNat : Int), .int .u64 (s.f.toNat : Int), .int .u64 (s.g.toNat : Int), .int .u64 (s.h.toNat : Int), .slice A n c, .int .u64 (m : Int)]
    #[.int .u64 0, .int .u64 0, .int .u64 0, .int .u64 0, .int .u64 0, .int .u64 0, .int .u64 0, .int .u64 0, .slice none 0 0, .int .u64 0] rfl rfl
  rw [hv_cells]
  unfold hcells
  go_enter Tryd.func23, Tryd.ntmps23
  go_wp2
  generalize hW : World.alloc (World.alloc w _) _ = W2 at *
  obtain ⟨H0, H1, HB, HS⟩ := HST
  clear hW
  have hr2 := (h.upTo HB hB).more (show B ≤ W2.heap.size by omega)
  have N1 := new_two W2.drew (.cells (hcells sz none 0 0 0) 45) (.cells #[] 5)
  have N2 := new_two W2.drew (.cells #[] 5) (.cells (hcells sz none 0 0 0) 45)
  have N3 := heap_alloc_new W2.drew (.cells #[] 5)
  have Z3 : (W2.drew.alloc (.cells #[] 5)).heap.size = w.heap.size + 1 + 1 + 1 := by rw [World.size_alloc]; exact congrArg (· + 1) HS
  rw [show W2.drew.heap.size = w.heap.size + 1 + 1 from HS] at N1 N2 N3
  have R1 := ((hr2.drew.alloc (Nat.le_refl _) (.cells (hcells sz none 0 0 0) 45)).more (show W2.heap.size ≤ w.heap.size + 1 + 1 + 1 by omega)).alloc (by rw [World.size_alloc]; exact Nat.le_of_eq (congrArg (· + 1) HS.symm)) (.cells #[] 5)
  have R2 := ((hr2.drew.alloc (Nat.le_refl _) (.cells #[] 5)).more (show W2.heap.size ≤ w.heap.size + 1 + 1 + 1 by omega)).alloc (by rw [World.size_alloc]; exact Nat.le_of_eq (congrArg (· + 1) HS.symm)) (.cells (hcells sz none 0 0 0) 45)
  have R3 := (hr2.drew.alloc (Nat.le_refl _) (.cells #[] 5)).more (show W2.heap.size ≤ w.heap.size + 1 + 1 + 1 by omega)
  refine wp_region_noPanic ?_
  refine wp_region_held_drew (S := (fun W => (W.cell? ⟨w.heap.size, 0, none⟩ = some (.int .u64 (s.a.toNat : Int)) ∧ W.cell? ⟨w.heap.size, 1, none⟩ = some (.int .u64 (s.b.toNat : Int)) ∧ W.cell? ⟨w.heap.size, 2, none⟩ = some (.int .u64 (s.c.toNat : Int)) ∧ W.cell? ⟨w.heap.size, 3, none⟩ = some (.int .u64 (s.d.toNat : Int)) ∧ W.cell? ⟨w.heap.size, 4, none⟩ = some (.int .u64 (s.e.toNat : Int)) ∧ W.cell? ⟨w.heap.size, 5, none⟩ = some (.int .u64 (s.f.toNat : Int)) ∧ W.cell? ⟨w.heap.size, 6, none⟩ = some (.int .u64 (s.g.toNat : Int)) ∧ W.cell? ⟨w.heap.size, 7, none⟩ = some (.int .u64 (s.h.toNat : Int)) ∧ W.cell? ⟨w.heap.size, 8, none⟩ = some (.slice A n c) ∧ W.cell? ⟨w.heap.size, 9, none⟩ = some (.int .u64 (m : Int))) ∧ Below (w.heap.size + 1 + 1) W2 W)) (by kernel_rfl) (by (try dsimp only); (first | exact ⟨HoldsH.all (W := World.drew W2) H0, (Below.refl _ W2).drew⟩ | exact ⟨(H0.keep hb6 (by omega)).all, hb6⟩ | (have hb' := Below.trans (‹_ ∧ Below (w.heap.size + 1 + 1) W2 _›).2 (hb4.mono (by omega)); exact ⟨(H0.keep hb' (by omega)).all, hb'⟩) | (have hb' := Below.alloc (‹_ ∧ Below (w.heap.size + 1 + 1) W2 _›).2 (by rw [← HS]; exact (‹_ ∧ Below (w.heap.size + 1 + 1) W2 _›).2.size) (.cells #[] 5); exact ⟨(H0.keep hb' (by omega)).all, hb'⟩) | (have hb' := Below.alloc (‹_ ∧ Below (w.heap.size + 1 + 1) W2 _›).2 (by rw [← HS]; exact (‹_ ∧ Below (w.heap.size + 1 + 1) W2 _›).2.size) (.cells (hcells sz none 0 0 0) 45); exact ⟨(H0.keep hb' (by omega)).all, hb'⟩))) (fun hHeld => ?_)
  refine wpAnyH_take (i := 0) (v := ?_) rfl (by kernel_rfl) (by kernel_rfl) (by kernel_rfl) (fun _ _ _ h => h) (Or.inl ⟨by rfl, ?_⟩) (by assumption) ?_
  rotate_left
  · intro w hSw; (try dsimp only at hSw); go_simp <;> with_reducible rfl
  try simp only [Act.put, List.getElem_toArray, List.getElem_cons_succ, List.getElem_cons_zero, List.setIfInBounds_toArray, List.set_cons_zero, List.set_cons_succ]
  refine wpAnyH_take (i := 1) (v := ?_) rfl (by kernel_rfl) (by kernel_rfl) (by kernel_rfl) (fun _ _ _ h => h) (Or.inl ⟨by rfl, ?_⟩) (by assumption) ?_
  rotate_left
  · intro w hSw; (try dsimp only at hSw); go_simp <;> with_reducible rfl
  try simp only [Act.put, List.getElem_toArray, List.getElem_cons_succ, List.getElem_cons_zero, List.setIfInBounds_toArray, List.set_cons_zero, List.set_cons_succ]
  refine wpAnyH_take (i := 2) (v := ?_) rfl (by kernel_rfl) (by kernel_rfl) (by kernel_rfl) (fun _ _ _ h => h) (Or.inl ⟨by rfl, ?_⟩) (by assumption) ?_
  rotate_left
  · intro w hSw; (try dsimp only at hSw); go_simp <;> with_reducible rfl
  try simp only [Act.put, List.getElem_toArray, List.getElem_cons_succ, List.getElem_cons_zero, List.setIfInBounds_toArray, List.set_cons_zero, List.set_cons_succ]
  refine wpAnyH_take (i := 3) (v := ?_) rfl (by kernel_rfl) (by kernel_rfl) (by kernel_rfl) (fun _ _ _ h => h) (Or.inl ⟨by rfl, ?_⟩) (by assumption) ?_
  rotate_left
  · intro w hSw; (try dsimp only at hSw); go_simp <;> with_reducible rfl
  try simp only [Act.put, List.getElem_toArray, List.getElem_cons_succ, List.getElem_cons_zero, List.setIfInBounds_toArray, List.set_cons_zero, List.set_cons_succ]
  refine wpAnyH_take (i := 5) (v := ?_) rfl (by kernel_rfl) (by kernel_rfl) (by kernel_rfl) (fun _ _ _ h => h) (Or.inl ⟨by rfl, ?_⟩) (by assumption) ?_
  rotate_left
  · intro w hSw; (try dsimp only at hSw); go_simp <;> with_reducible rfl
  try simp only [Act.put, List.getElem_toArray, List.getElem_cons_succ, List.getElem_cons_zero, List.setIfInBounds_toArray, List.set_cons_zero, List.set_cons_succ]
  refine wpAnyH_take (i := 6) (v := ?_) rfl (by kernel_rfl) (by kernel_rfl) (by kernel_rfl) (fun _ _ _ h => h) (Or.inl ⟨by rfl, ?_⟩) (by assumption) ?_
  rotate_left
  · intro w hSw; (try dsimp only at hSw); go_simp <;> with_reducible rfl
  try simp only [Act.put, List.getElem_toArray, List.getElem_cons_succ, List.getElem_cons_zero, List.setIfInBounds_toArray, List.set_cons_zero, List.set_cons_succ]
  refine wpAnyH_ready (rs := [4, 9]) (by kernel_rfl) (by simp) ?_
  refine AllReadyH.cons rfl (fun K hK => ?_) ?_
  · simp only [List.getElem_toArray, List.getElem_cons_succ, List.getElem_cons_zero]
    go_simp
    refine hK.out _ _ ?_ (fun hHeld => ?_)
    · (try dsimp only); (first | exact ⟨HoldsH.all (W := World.drew W2) H0, (Below.refl _ W2).drew⟩ | exact ⟨(H0.keep hb6 (by omega)).all, hb6⟩ | (have hb' := Below.trans (‹_ ∧ Below (w.heap.size + 1 + 1) W2 _›).2 (hb4.mono (by omega)); exact ⟨(H0.keep hb' (by omega)).all, hb'⟩) | (have hb' := Below.alloc (‹_ ∧ Below (w.heap.size + 1 + 1) W2 _›).2 (by rw [← HS]; exact (‹_ ∧ Below (w.heap.size + 1 + 1) W2 _›).2.size) (.cells #[] 5); exact ⟨(H0.keep hb' (by omega)).all, hb'⟩) | (have hb' := Below.alloc (‹_ ∧ Below (w.heap.size + 1 + 1) W2 _›).2 (by rw [← HS]; exact (‹_ ∧ Below (w.heap.size + 1 + 1) W2 _›).2.size) (.cells (hcells sz none 0 0 0) 45); exact ⟨(H0.keep hb' (by omega)).all, hb'⟩))
    clear hK K
    try simp only [Act.put, List.getElem_toArray, List.getElem_cons_succ, List.getElem_cons_zero, List.setIfInBounds_toArray, List.set_cons_zero, List.set_cons_succ]
    refine wpAnyH_ready (rs := [7, 9]) (by kernel_rfl) (by simp) ?_
    refine AllReadyH.cons rfl (fun K hK => ?_) ?_
    · skip
      (first | (refine step_append_clone _ rfl (.tmp 13) (.tmp 15) _ rfl 5 i0 _ Tryd.underlying24 hi0 hz0 hz1 hz2 rfl (w.heap.size + 1 + 1 + 1) rfl (own_empty _ _ _ N1.2.1) A n c (r.map bv) rfl ((R1.more (by omega)).more (Nat.le_of_eq N1.2.2.symm)) (bv_one r) (by omega) (Nat.le_trans (Nat.le_succ _) (Nat.le_of_eq N1.2.2.symm)) ?_; intro A4 c4 w4 hS4' hk4 hb4; have hS4 := hS4'.imp (Y := fun b => b = w.heap.size + 1 + 1 + 1 ∨ w.heap.size + 1 + 1 + 1 + 1 ≤ b) (fun b _ hx => hx.imp id (fun h => Nat.le_trans (Nat.le_of_eq N1.2.2.symm) h)); clear hS4') | (refine step_append_clone _ rfl (.tmp 13) (.tmp 15) _ rfl 5 i0 _ Tryd.underlying24 hi0 hz0 hz1 hz2 rfl (w.heap.size + 1 + 1) rfl (own_empty _ _ _ N2.1) A n c (r.map bv) rfl ((R2.more (by omega)).more (Nat.le_of_eq N2.2.2.symm)) (bv_one r) (by omega) (Nat.le_trans (Nat.le_trans (Nat.le_succ _) (Nat.le_succ _)) (Nat.le_of_eq N2.2.2.symm)) ?_; intro A4 c4 w4 hS4' hk4 hb4; have hS4 := hS4'.imp (Y := fun b => b = w.heap.size + 1 + 1 ∨ w.heap.size + 1 + 1 + 1 + 1 ≤ b) (fun b _ hx => hx.imp id (fun h => Nat.le_trans (Nat.le_of_eq N2.2.2.symm) h)); clear hS4') | (refine step_append_clone _ rfl (.tmp 13) (.tmp 15) _ rfl 5 i0 _ Tryd.underlying24 hi0 hz0 hz1 hz2 rfl (w.heap.size + 1 + 1) rfl (own_empty _ _ _ N3) A n c (r.map bv) rfl (R3.more (Nat.le_of_eq Z3.symm)) (bv_one r) (by omega) (Nat.le_trans (Nat.le_succ _) (Nat.le_of_eq Z3.symm)) ?_; intro A4 c4 w4 hS4' hk4 hb4; have hS4 := hS4'.imp (Y := fun b => b = w.heap.size + 1 + 1 ∨ w.heap.size + 1 + 1 + 1 ≤ b) (fun b _ hx => hx.imp id (fun h => Nat.le_trans (Nat.le_of_eq Z3.symm) h)); clear hS4') | (refine step_store_h rfl (.tmp 6) (.tmp 17) rfl (w.heap.size + 1 + 1) s A4 n c4 m rfl rfl sz none 0 0 0 ((hk4 _ (Nat.lt_of_lt_of_eq (by omega) N1.2.2.symm) (by omega)).trans N1.1) Tryd.infoH (w.heap.size + 1 + 1) W2 (‹_ ∧ Below (w.heap.size + 1 + 1) W2 _›).2 (by omega) ?_; intro w6 Hg6 ho6 hs6 hb6; have hS6 := (hS4.keep (Nat.le_of_eq hs6.symm) (fun b _ hx => ho6 b (by omega))).imp (Y := fun b => w.heap.size + 1 < b ∧ b ≠ w.heap.size + 1 + 1) (fun b _ hx => by omega)) | (refine step_store_h rfl (.tmp 6) (.tmp 17) rfl (w.heap.size + 1 + 1 + 1) s A4 n c4 m rfl rfl sz none 0 0 0 ((hk4 _ (Nat.lt_of_lt_of_eq (by omega) N2.2.2.symm) (by omega)).trans N2.2.1) Tryd.infoH (w.heap.size + 1 + 1) W2 (‹_ ∧ Below (w.heap.size + 1 + 1) W2 _›).2 (by omega) ?_; intro w6 Hg6 ho6 hs6 hb6; have hS6 := (hS4.keep (Nat.le_of_eq hs6.symm) (fun b _ hx => ho6 b (by omega))).imp (Y := fun b => w.heap.size + 1 < b ∧ b ≠ w.heap.size + 1 + 1 + 1) (fun b _ hx => by omega)) | (refine step_store_h rfl (.tmp 6) (.tmp 17) rfl w4.heap.size s A4 n c4 m rfl rfl sz none 0 0 0 (heap_alloc_new w4 _) Tryd.infoH (w.heap.size + 1 + 1) W2 (‹_ ∧ Below (w.heap.size + 1 + 1) W2 _›).2 (Nat.le_trans (Nat.le_succ _) (Nat.le_trans (Nat.le_of_eq Z3.symm) hb4.size)) ?_; intro w6 Hg6 ho6 hs6 hb6; have hS6 := ((hS4.imp (Y := fun b => w.heap.size + 1 < b ∧ b ≠ w4.heap.size) (fun b hb hx => ⟨by omega, by omega⟩)).keep (Nat.le_trans (Nat.le_succ _) (Nat.le_of_eq ((World.size_alloc ..).symm.trans hs6.symm))) (fun b hb hx => (ho6 b hx.2).trans ((heap_alloc_other w4 _ hb))))))
      refine hK.out _ _ ?_ (fun hHeld => ?_)
      · (try dsimp only); (first | exact ⟨HoldsH.all (W := World.drew W2) H0, (Below.refl _ W2).drew⟩ | exact ⟨(H0.keep hb6 (by omega)).all, hb6⟩ | (have hb' := Below.trans (‹_ ∧ Below (w.heap.size + 1 + 1) W2 _›).2 (hb4.mono (by omega)); exact ⟨(H0.keep hb' (by omega)).all, hb'⟩) | (have hb' := Below.alloc (‹_ ∧ Below (w.heap.size + 1 + 1) W2 _›).2 (by rw [← HS]; exact (‹_ ∧ Below (w.heap.size + 1 + 1) W2 _›).2.size) (.cells #[] 5); exact ⟨(H0.keep hb' (by omega)).all, hb'⟩) | (have hb' := Below.alloc (‹_ ∧ Below (w.heap.size + 1 + 1) W2 _›).2 (by rw [← HS]; exact (‹_ ∧ Below (w.heap.size + 1 + 1) W2 _›).2.size) (.cells (hcells sz none 0 0 0) 45); exact ⟨(H0.keep hb' (by omega)).all, hb'⟩))
      clear hK K
      try simp only [Act.put, List.getElem_toArray, List.getElem_cons_succ, List.getElem_cons_zero, List.setIfInBounds_toArray, List.set_cons_zero, List.set_cons_succ]
      refine wpAnyH_take (i := 8) (v := ?_) rfl (by kernel_rfl) (by kernel_rfl) (by kernel_rfl) (fun _ _ _ h => h) (Or.inl ⟨by rfl, ?_⟩) (by assumption) ?_
      rotate_left
      · intro w hSw; (try dsimp only at hSw); go_simp <;> with_reducible rfl
      try simp only [Act.put, List.getElem_toArray, List.getElem_cons_succ, List.getElem_cons_zero, List.setIfInBounds_toArray, List.set_cons_zero, List.set_cons_succ]
      refine wpAnyH_ready (rs := [9]) (by kernel_rfl) (by simp) ?_
      refine AllReadyH.cons rfl (fun K hK => ?_) ?_
      · simp only [List.getElem_toArray, List.getElem_cons_succ, List.getElem_cons_zero]
        go_simp
        refine hK.out _ _ ?_ (fun hHeld => ?_)
        · (try dsimp only); (first | exact ⟨HoldsH.all (W := World.drew W2) H0, (Below.refl _ W2).drew⟩ | exact ⟨(H0.keep hb6 (by omega)).all, hb6⟩ | (have hb' := Below.trans (‹_ ∧ Below (w.heap.size + 1 + 1) W2 _›).2 (hb4.mono (by omega)); exact ⟨(H0.keep hb' (by omega)).all, hb'⟩) | (have hb' := Below.alloc (‹_ ∧ Below (w.heap.size + 1 + 1) W2 _›).2 (by rw [← HS]; exact (‹_ ∧ Below (w.heap.size + 1 + 1) W2 _›).2.size) (.cells #[] 5); exact ⟨(H0.keep hb' (by omega)).all, hb'⟩) | (have hb' := Below.alloc (‹_ ∧ Below (w.heap.size + 1 + 1) W2 _›).2 (by rw [← HS]; exact (‹_ ∧ Below (w.heap.size + 1 + 1) W2 _›).2.size) (.cells (hcells sz none 0 0 0) 45); exact ⟨(H0.keep hb' (by omega)).all, hb'⟩))
        clear hK K
        try simp only [Act.put, List.getElem_toArray, List.getElem_cons_succ, List.getElem_cons_zero, List.setIfInBounds_toArray, List.set_cons_zero, List.set_cons_succ]
        refine wpAnyH_ready (rs := [10]) (by kernel_rfl) (by simp) ?_
        refine AllReadyH.cons rfl (fun K hK => ?_) ?_
        · skip
          (first | (refine step_append_clone _ rfl (.tmp 13) (.tmp 15) _ rfl 5 i0 _ Tryd.underlying24 hi0 hz0 hz1 hz2 rfl (w.heap.size + 1 + 1 + 1) rfl (own_empty _ _ _ N1.2.1) A n c (r.map bv) rfl ((R1.more (by omega)).more (Nat.le_of_eq N1.2.2.symm)) (bv_one r) (by omega) (Nat.le_trans (Nat.le_succ _) (Nat.le_of_eq N1.2.2.symm)) ?_; intro A4 c4 w4 hS4' hk4 hb4; have hS4 := hS4'.imp (Y := fun b => b = w.heap.size + 1 + 1 + 1 ∨ w.heap.size + 1 + 1 + 1 + 1 ≤ b) (fun b _ hx => hx.imp id (fun h => Nat.le_trans (Nat.le_of_eq N1.2.2.symm) h)); clear hS4') | (refine step_append_clone _ rfl (.tmp 13) (.tmp 15) _ rfl 5 i0 _ Tryd.underlying24 hi0 hz0 hz1 hz2 rfl (w.heap.size + 1 + 1) rfl (own_empty _ _ _ N2.1) A n c (r.map bv) rfl ((R2.more (by omega)).more (Nat.le_of_eq N2.2.2.symm)) (bv_one r) (by omega) (Nat.le_trans (Nat.le_trans (Nat.le_succ _) (Nat.le_succ _)) (Nat.le_of_eq N2.2.2.symm)) ?_; intro A4 c4 w4 hS4' hk4 hb4; have hS4 := hS4'.imp (Y := fun b => b = w.heap.size + 1 + 1 ∨ w.heap.size + 1 + 1 + 1 + 1 ≤ b) (fun b _ hx => hx.imp id (fun h => Nat.le_trans (Nat.le_of_eq N2.2.2.symm) h)); clear hS4') | (refine step_append_clone _ rfl (.tmp 13) (.tmp 15) _ rfl 5 i0 _ Tryd.underlying24 hi0 hz0 hz1 hz2 rfl (w.heap.size + 1 + 1) rfl (own_empty _ _ _ N3) A n c (r.map bv) rfl (R3.more (Nat.le_of_eq Z3.symm)) (bv_one r) (by omega) (Nat.le_trans (Nat.le_succ _) (Nat.le_of_eq Z3.symm)) ?_; intro A4 c4 w4 hS4' hk4 hb4; have hS4 := hS4'.imp (Y := fun b => b = w.heap.size + 1 + 1 ∨ w.heap.size + 1 + 1 + 1 ≤ b) (fun b _ hx => hx.imp id (fun h => Nat.le_trans (Nat.le_of_eq Z3.symm) h)); clear hS4') | (refine step_store_h rfl (.tmp 6) (.tmp 17) rfl (w.heap.size + 1 + 1) s A4 n c4 m rfl rfl sz none 0 0 0 ((hk4 _ (Nat.lt_of_lt_of_eq (by omega) N1.2.2.symm) (by omega)).trans N1.1) Tryd.infoH (w.heap.size + 1 + 1) W2 (‹_ ∧ Below (w.heap.size + 1 + 1) W2 _›).2 (by omega) ?_; intro w6 Hg6 ho6 hs6 hb6; have hS6 := (hS4.keep (Nat.le_of_eq hs6.symm) (fun b _ hx => ho6 b (by omega))).imp (Y := fun b => w.heap.size + 1 < b ∧ b ≠ w.heap.size + 1 + 1) (fun b _ hx => by omega)) | (refine step_store_h rfl (.tmp 6) (.tmp 17) rfl (w.heap.size + 1 + 1 + 1) s A4 n c4 m rfl rfl sz none 0 0 0 ((hk4 _ (Nat.lt_of_lt_of_eq (by omega) N2.2.2.symm) (by omega)).trans N2.2.1) Tryd.infoH (w.heap.size + 1 + 1) W2 (‹_ ∧ Below (w.heap.size + 1 + 1) W2 _›).2 (by omega) ?_; intro w6 Hg6 ho6 hs6 hb6; have hS6 := (hS4.keep (Nat.le_of_eq hs6.symm) (fun b _ hx => ho6 b (by omega))).imp (Y := fun b => w.heap.size + 1 < b ∧ b ≠ w.heap.size + 1 + 1 + 1) (fun b _ hx => by omega)) | (refine step_store_h rfl (.tmp 6) (.tmp 17) rfl w4.heap.size s A4 n c4 m rfl rfl sz none 0 0 0 (heap_alloc_new w4 _) Tryd.infoH (w.heap.size + 1 + 1) W2 (‹_ ∧ Below (w.heap.size + 1 + 1) W2 _›).2 (Nat.le_trans (Nat.le_succ _) (Nat.le_trans (Nat.le_of_eq Z3.symm) hb4.size)) ?_; intro w6 Hg6 ho6 hs6 hb6; have hS6 := ((hS4.imp (Y := fun b => w.heap.size + 1 < b ∧ b ≠ w4.heap.size) (fun b hb hx => ⟨by omega, by omega⟩)).keep (Nat.le_trans (Nat.le_succ _) (Nat.le_of_eq ((World.size_alloc ..).symm.trans hs6.symm))) (fun b hb hx => (ho6 b hx.2).trans ((heap_alloc_other w4 _ hb))))))
          refine hK.out _ _ ?_ (fun hHeld => ?_)
          · (try dsimp only); (first | exact ⟨HoldsH.all (W := World.drew W2) H0, (Below.refl _ W2).drew⟩ | exact ⟨(H0.keep hb6 (by omega)).all, hb6⟩ | (have hb' := Below.trans (‹_ ∧ Below (w.heap.size + 1 + 1) W2 _›).2 (hb4.mono (by omega)); exact ⟨(H0.keep hb' (by omega)).all, hb'⟩) | (have hb' := Below.alloc (‹_ ∧ Below (w.heap.size + 1 + 1) W2 _›).2 (by rw [← HS]; exact (‹_ ∧ Below (w.heap.size + 1 + 1) W2 _›).2.size) (.cells #[] 5); exact ⟨(H0.keep hb' (by omega)).all, hb'⟩) | (have hb' := Below.alloc (‹_ ∧ Below (w.heap.size + 1 + 1) W2 _›).2 (by rw [← HS]; exact (‹_ ∧ Below (w.heap.size + 1 + 1) W2 _›).2.size) (.cells (hcells sz none 0 0 0) 45); exact ⟨(H0.keep hb' (by omega)).all, hb'⟩))
          clear hK K
          try simp only [Act.put, List.getElem_toArray, List.getElem_cons_succ, List.getElem_cons_zero, List.setIfInBounds_toArray, List.set_cons_zero, List.set_cons_succ]
          refine wpAnyH_done (by kernel_rfl) ?_ _
          refine NoPanic.normal ?_
          have H1' := H1.keep hb6 (by omega)
          have H0' := H0.keep hb6 (by omega)
          have HB' := HB.trans (hb6.mono (by omega))
          clear H0 H1 HB hr2 N1 N2 N3 Z3 R1 R2 R3 hS4 hk4 hb4 ho6 hs6 hb6
          go_wp2_with (first
            | (with_reducible refine wpList_load_h rfl (.tmp 2) rfl w.heap.size rfl s A n c m H0' Tryd.underlying45 Tryd.infoH ?_)
            | (go_at_call 42
               refine (HM.out _).mono ?_
               rintro e w7 ⟨rfl, hb7⟩
               have Hg7 := Hg6.keep hb7 Hg6.lt
               have H1'' := H1'.keep hb7 H1'.lt
               have HB'' := HB'.trans (hb7.mono HB'.size)
               have hS7 := hS6.keep hb7.size (fun b hb _ => hb7.block b hb))
            | (with_reducible refine wpList_load_h rfl (.tmp 6) rfl _ rfl s A4 n c4 m Hg7 Tryd.underlying45 Tryd.infoH ?_)
            | (with_reducible refine wpList_store_h rfl (.tmp 4) (.tmp 22) rfl (w.heap.size + 1) s A4 n c4 m rfl rfl sz none 0 0 0 H1'' Tryd.infoH w.heap.size w HB'' (by omega) ?_; intro w8 Hg ho hsz hb8))
          exact bodyPost_ret (results_cell_tmp rfl _ _ (w.heap.size + 1) _ _ _ _ rfl Hg Tryd.underlying45 rfl (by rw [Tryd.infoH]; rfl)) rfl
            ⟨A4, c4, rfl, (hS7.keep (Nat.le_of_eq hsz.symm) (fun b _ hx => ho b (by omega))).1, hb8⟩
        exact AllReadyH.nil
      exact AllReadyH.nil
    refine AllReadyH.cons rfl (fun K hK => ?_) ?_
    · simp only [List.getElem_toArray, List.getElem_cons_succ, List.getElem_cons_zero]
      go_simp
      refine hK.out _ _ ?_ (fun hHeld => ?_)
      · (try dsimp only); (first | exact ⟨HoldsH.all (W := World.drew W2) H0, (Below.refl _ W2).drew⟩ | exact ⟨(H0.keep hb6 (by omega)).all, hb6⟩ | (have hb' := Below.trans (‹_ ∧ Below (w.heap.size + 1 + 1) W2 _›).2 (hb4.mono (by omega)); exact ⟨(H0.keep hb' (by omega)).all, hb'⟩) | (have hb' := Below.alloc (‹_ ∧ Below (w.heap.size + 1 + 1) W2 _›).2 (by rw [← HS]; exact (‹_ ∧ Below (w.heap.size + 1 + 1) W2 _›).2.size) (.cells #[] 5); exact ⟨(H0.keep hb' (by omega)).all, hb'⟩) | (have hb' := Below.alloc (‹_ ∧ Below (w.heap.size + 1 + 1) W2 _›).2 (by rw [← HS]; exact (‹_ ∧ Below (w.heap.size + 1 + 1) W2 _›).2.size) (.cells (hcells sz none 0 0 0) 45); exact ⟨(H0.keep hb' (by omega)).all, hb'⟩))
      clear hK K
      try simp only [Act.put, List.getElem_toArray, List.getElem_cons_succ, List.getElem_cons_zero, List.setIfInBounds_toArray, List.set_cons_zero, List.set_cons_succ]
      refine wpAnyH_ready (rs := [7]) (by kernel_rfl) (by simp) ?_
      refine AllReadyH.cons rfl (fun K hK => ?_) ?_
      · skip
        (first | (refine step_append_clone _ rfl (.tmp 13) (.tmp 15) _ rfl 5 i0 _ Tryd.underlying24 hi0 hz0 hz1 hz2 rfl (w.heap.size + 1 + 1 + 1) rfl (own_empty _ _ _ N1.2.1) A n c (r.map bv) rfl ((R1.more (by omega)).more (Nat.le_of_eq N1.2.2.symm)) (bv_one r) (by omega) (Nat.le_trans (Nat.le_succ _) (Nat.le_of_eq N1.2.2.symm)) ?_; intro A4 c4 w4 hS4' hk4 hb4; have hS4 := hS4'.imp (Y := fun b => b = w.heap.size + 1 + 1 + 1 ∨ w.heap.size + 1 + 1 + 1 + 1 ≤ b) (fun b _ hx => hx.imp id (fun h => Nat.le_trans (Nat.le_of_eq N1.2.2.symm) h)); clear hS4') | (refine step_append_clone _ rfl (.tmp 13) (.tmp 15) _ rfl 5 i0 _ Tryd.underlying24 hi0 hz0 hz1 hz2 rfl (w.heap.size + 1 + 1) rfl (own_empty _ _ _ N2.1) A n c (r.map bv) rfl ((R2.more (by omega)).more (Nat.le_of_eq N2.2.2.symm)) (bv_one r) (by omega) (Nat.le_trans (Nat.le_trans (Nat.le_succ _) (Nat.le_succ _)) (Nat.le_of_eq N2.2.2.symm)) ?_; intro A4 c4 w4 hS4' hk4 hb4; have hS4 := hS4'.imp (Y := fun b => b = w.heap.size + 1 + 1 ∨ w.heap.size + 1 + 1 + 1 + 1 ≤ b) (fun b _ hx => hx.imp id (fun h => Nat.le_trans (Nat.le_of_eq N2.2.2.symm) h)); clear hS4') | (refine step_append_clone _ rfl (.tmp 13) (.tmp 15) _ rfl 5 i0 _ Tryd.underlying24 hi0 hz0 hz1 hz2 rfl (w.heap.size + 1 + 1) rfl (own_empty _ _ _ N3) A n c (r.map bv) rfl (R3.more (Nat.le_of_eq Z3.symm)) (bv_one r) (by omega) (Nat.le_trans (Nat.le_succ _) (Nat.le_of_eq Z3.symm)) ?_; intro A4 c4 w4 hS4' hk4 hb4; have hS4 := hS4'.imp (Y := fun b => b = w.heap.size + 1 + 1 ∨ w.heap.size + 1 + 1 + 1 ≤ b) (fun b _ hx => hx.imp id (fun h => Nat.le_trans (Nat.le_of_eq Z3.symm) h)); clear hS4') | (refine step_store_h rfl (.tmp 6) (.tmp 17) rfl (w.heap.size + 1 + 1) s A4 n c4 m rfl rfl sz none 0 0 0 ((hk4 _ (Nat.lt_of_lt_of_eq (by omega) N1.2.2.symm) (by omega)).trans N1.1) Tryd.infoH (w.heap.size + 1 + 1) W2 (‹_ ∧ Below (w.heap.size + 1 + 1) W2 _›).2 (by omega) ?_; intro w6 Hg6 ho6 hs6 hb6; have hS6 := (hS4.keep (Nat.le_of_eq hs6.symm) (fun b _ hx => ho6 b (by omega))).imp (Y := fun b => w.heap.size + 1 < b ∧ b ≠ w.heap.size + 1 + 1) (fun b _ hx => by omega)) | (refine step_store_h rfl (.tmp 6) (.tmp 17) rfl (w.heap.size + 1 + 1 + 1) s A4 n c4 m rfl rfl sz none 0 0 0 ((hk4 _ (Nat.lt_of_lt_of_eq (by omega) N2.2.2.symm) (by omega)).trans N2.2.1) Tryd.infoH (w.heap.size + 1 + 1) W2 (‹_ ∧ Below (w.heap.size + 1 + 1) W2 _›).2 (by omega) ?_; intro w6 Hg6 ho6 hs6 hb6; have hS6 := (hS4.keep (Nat.le_of_eq hs6.symm) (fun b _ hx => ho6 b (by omega))).imp (Y := fun b => w.heap.size + 1 < b ∧ b ≠ w.heap.size + 1 + 1 + 1) (fun b _ hx => by omega)) | (refine step_store_h rfl (.tmp 6) (.tmp 17) rfl w4.heap.size s A4 n c4 m rfl rfl sz none 0 0 0 (heap_alloc_new w4 _) Tryd.infoH (w.heap.size + 1 + 1) W2 (‹_ ∧ Below (w.heap.size + 1 + 1) W2 _›).2 (Nat.le_trans (Nat.le_succ _) (Nat.le_trans (Nat.le_of_eq Z3.symm) hb4.size)) ?_; intro w6 Hg6 ho6 hs6 hb6; have hS6 := ((hS4.imp (Y := fun b => w.heap.size + 1 < b ∧ b ≠ w4.heap.size) (fun b hb hx => ⟨by omega, by omega⟩)).keep (Nat.le_trans (Nat.le_succ _) (Nat.le_of_eq ((World.size_alloc ..).symm.trans hs6.symm))) (fun b hb hx => (ho6 b hx.2).trans ((heap_alloc_other w4 _ hb))))))
        refine hK.out _ _ ?_ (fun hHeld => ?_)
        · (try dsimp only); (first | exact ⟨HoldsH.all (W := World.drew W2) H0, (Below.refl _ W2).drew⟩ | exact ⟨(H0.keep hb6 (by omega)).all, hb6⟩ | (have hb' := Below.trans (‹_ ∧ Below (w.heap.size + 1 + 1) W2 _›).2 (hb4.mono (by omega)); exact ⟨(H0.keep hb' (by omega)).all, hb'⟩) | (have hb' := Below.alloc (‹_ ∧ Below (w.heap.size + 1 + 1) W2 _›).2 (by rw [← HS]; exact (‹_ ∧ Below (w.heap.size + 1 + 1) W2 _›).2.size) (.cells #[] 5); exact ⟨(H0.keep hb' (by omega)).all, hb'⟩) | (have hb' := Below.alloc (‹_ ∧ Below (w.heap.size + 1 + 1) W2 _›).2 (by rw [← HS]; exact (‹_ ∧ Below (w.heap.size + 1 + 1) W2 _›).2.size) (.cells (hcells sz none 0 0 0) 45); exact ⟨(H0.keep hb' (by omega)).all, hb'⟩))
        clear hK K
        try simp only [Act.put, List.getElem_toArray, List.getElem_cons_succ, List.getElem_cons_zero, List.setIfInBounds_toArray, List.set_cons_zero, List.set_cons_succ]
        refine wpAnyH_take (i := 8) (v := ?_) rfl (by kernel_rfl) (by kernel_rfl) (by kernel_rfl) (fun _ _ _ h => h) (Or.inl ⟨by rfl, ?_⟩) (by assumption) ?_
        rotate_left
        · intro w hSw; (try dsimp only at hSw); go_simp <;> with_reducible rfl
        try simp only [Act.put, List.getElem_toArray, List.getElem_cons_succ, List.getElem_cons_zero, List.setIfInBounds_toArray, List.set_cons_zero, List.set_cons_succ]
        refine wpAnyH_ready (rs := [10]) (by kernel_rfl) (by simp) ?_
        refine AllReadyH.cons rfl (fun K hK => ?_) ?_
        · skip
          (first | (refine step_append_clone _ rfl (.tmp 13) (.tmp 15) _ rfl 5 i0 _ Tryd.underlying24 hi0 hz0 hz1 hz2 rfl (w.heap.size + 1 + 1 + 1) rfl (own_empty _ _ _ N1.2.1) A n c (r.map bv) rfl ((R1.more (by omega)).more (Nat.le_of_eq N1.2.2.symm)) (bv_one r) (by omega) (Nat.le_trans (Nat.le_succ _) (Nat.le_of_eq N1.2.2.symm)) ?_; intro A4 c4 w4 hS4' hk4 hb4; have hS4 := hS4'.imp (Y := fun b => b = w.heap.size + 1 + 1 + 1 ∨ w.heap.size + 1 + 1 + 1 + 1 ≤ b) (fun b _ hx => hx.imp id (fun h => Nat.le_trans (Nat.le_of_eq N1.2.2.symm) h)); clear hS4') | (refine step_append_clone _ rfl (.tmp 13) (.tmp 15) _ rfl 5 i0 _ Tryd.underlying24 hi0 hz0 hz1 hz2 rfl (w.heap.size + 1 + 1) rfl (own_empty _ _ _ N2.1) A n c (r.map bv) rfl ((R2.more (by omega)).more (Nat.le_of_eq N2.2.2.symm)) (bv_one r) (by omega) (Nat.le_trans (Nat.le_trans (Nat.le_succ _) (Nat.le_succ _)) (Nat.le_of_eq N2.2.2.symm)) ?_; intro A4 c4 w4 hS4' hk4 hb4; have hS4 := hS4'.imp (Y := fun b => b = w.heap.size + 1 + 1 ∨ w.heap.size + 1 + 1 + 1 + 1 ≤ b) (fun b _ hx => hx.imp id (fun h => Nat.le_trans (Nat.le_of_eq N2.2.2.symm) h)); clear hS4') | (refine step_append_clone _ rfl (.tmp 13) (.tmp 15) _ rfl 5 i0 _ Tryd.underlying24 hi0 hz0 hz1 hz2 rfl (w.heap.size + 1 + 1) rfl (own_empty _ _ _ N3) A n c (r.map bv) rfl (R3.more (Nat.le_of_eq Z3.symm)) (bv_one r) (by omega) (Nat.le_trans (Nat.le_succ _) (Nat.le_of_eq Z3.symm)) ?_; intro A4 c4 w4 hS4' hk4 hb4; have hS4 := hS4'.imp (Y := fun b => b = w.heap.size + 1 + 1 ∨ w.heap.size + 1 + 1 + 1 ≤ b) (fun b _ hx => hx.imp id (fun h => Nat.le_trans (Nat.le_of_eq Z3.symm) h)); clear hS4') | (refine step_store_h rfl (.tmp 6) (.tmp 17) rfl (w.heap.size + 1 + 1) s A4 n c4 m rfl rfl sz none 0 0 0 ((hk4 _ (Nat.lt_of_lt_of_eq (by omega) N1.2.2.symm) (by omega)).trans N1.1) Tryd.infoH (w.heap.size + 1 + 1) W2 (‹_ ∧ Below (w.heap.size + 1 + 1) W2 _›).2 (by omega) ?_; intro w6 Hg6 ho6 hs6 hb6; have hS6 := (hS4.keep (Nat.le_of_eq hs6.symm) (fun b _ hx => ho6 b (by omega))).imp (Y := fun b => w.heap.size + 1 < b ∧ b ≠ w.heap.size + 1 + 1) (fun b _ hx => by omega)) | (refine step_store_h rfl (.tmp 6) (.tmp 17) rfl (w.heap.size + 1 + 1 + 1) s A4 n c4 m rfl rfl sz none 0 0 0 ((hk4 _ (Nat.lt_of_lt_of_eq (by omega) N2.2.2.symm) (by omega)).trans N2.2.1) Tryd.infoH (w.heap.size + 1 + 1) W2 (‹_ ∧ Below (w.heap.size + 1 + 1) W2 _›).2 (by omega) ?_; intro w6 Hg6 ho6 hs6 hb6; have hS6 := (hS4.keep (Nat.le_of_eq hs6.symm) (fun b _ hx => ho6 b (by omega))).imp (Y := fun b => w.heap.size + 1 < b ∧ b ≠ w.heap.size + 1 + 1 + 1) (fun b _ hx => by omega)) | (refine step_store_h rfl (.tmp 6) (.tmp 17) rfl w4.heap.size s A4 n c4 m rfl rfl sz none 0 0 0 (heap_alloc_new w4 _) Tryd.infoH (w.heap.size + 1 + 1) W2 (‹_ ∧ Below (w.heap.size + 1 + 1) W2 _›).2 (Nat.le_trans (Nat.le_succ _) (Nat.le_trans (Nat.le_of_eq Z3.symm) hb4.size)) ?_; intro w6 Hg6 ho6 hs6 hb6; have hS6 := ((hS4.imp (Y := fun b => w.heap.size + 1 < b ∧ b ≠ w4.heap.size) (fun b hb hx => ⟨by omega, by omega⟩)).keep (Nat.le_trans (Nat.le_succ _) (Nat.le_of_eq ((World.size_alloc ..).symm.trans hs6.symm))) (fun b hb hx => (ho6 b hx.2).trans ((heap_alloc_other w4 _ hb))))))
          refine hK.out _ _ ?_ (fun hHeld => ?_)
          · (try dsimp only); (first | exact ⟨HoldsH.all (W := World.drew W2) H0, (Below.refl _ W2).drew⟩ | exact ⟨(H0.keep hb6 (by omega)).all, hb6⟩ | (have hb' := Below.trans (‹_ ∧ Below (w.heap.size + 1 + 1) W2 _›).2 (hb4.mono (by omega)); exact ⟨(H0.keep hb' (by omega)).all, hb'⟩) | (have hb' := Below.alloc (‹_ ∧ Below (w.heap.size + 1 + 1) W2 _›).2 (by rw [← HS]; exact (‹_ ∧ Below (w.heap.size + 1 + 1) W2 _›).2.size) (.cells #[] 5); exact ⟨(H0.keep hb' (by omega)).all, hb'⟩) | (have hb' := Below.alloc (‹_ ∧ Below (w.heap.size + 1 + 1) W2 _›).2 (by rw [← HS]; exact (‹_ ∧ Below (w.heap.size + 1 + 1) W2 _›).2.size) (.cells (hcells sz none 0 0 0) 45); exact ⟨(H0.keep hb' (by omega)).all, hb'⟩))
          clear hK K
          try simp only [Act.put, List.getElem_toArray, List.getElem_cons_succ, List.getElem_cons_zero, List.setIfInBounds_toArray, List.set_cons_zero, List.set_cons_succ]
          refine wpAnyH_done (by kernel_rfl) ?_ _
          refine NoPanic.normal ?_
          have H1' := H1.keep hb6 (by omega)
          have H0' := H0.keep hb6 (by omega)
          have HB' := HB.trans (hb6.mono (by omega))
          clear H0 H1 HB hr2 N1 N2 N3 Z3 R1 R2 R3 hS4 hk4 hb4 ho6 hs6 hb6
          go_wp2_with (first
            | (with_reducible refine wpList_load_h rfl (.tmp 2) rfl w.heap.size rfl s A n c m H0' Tryd.underlying45 Tryd.infoH ?_)
            | (go_at_call 42
               refine (HM.out _).mono ?_
               rintro e w7 ⟨rfl, hb7⟩
               have Hg7 := Hg6.keep hb7 Hg6.lt
               have H1'' := H1'.keep hb7 H1'.lt
               have HB'' := HB'.trans (hb7.mono HB'.size)
               have hS7 := hS6.keep hb7.size (fun b hb _ => hb7.block b hb))
            | (with_reducible refine wpList_load_h rfl (.tmp 6) rfl _ rfl s A4 n c4 m Hg7 Tryd.underlying45 Tryd.infoH ?_)
            | (with_reducible refine wpList_store_h rfl (.tmp 4) (.tmp 22) rfl (w.heap.size + 1) s A4 n c4 m rfl rfl sz none 0 0 0 H1'' Tryd.infoH w.heap.size w HB'' (by omega) ?_; intro w8 Hg ho hsz hb8))
          exact bodyPost_ret (results_cell_tmp rfl _ _ (w.heap.size + 1) _ _ _ _ rfl Hg Tryd.underlying45 rfl (by rw [Tryd.infoH]; rfl)) rfl
            ⟨A4, c4, rfl, (hS7.keep (Nat.le_of_eq hsz.symm) (fun b _ hx => ho b (by omega))).1, hb8⟩
        exact AllReadyH.nil
      exact AllReadyH.nil
    exact AllReadyH.nil
  refine AllReadyH.cons rfl (fun K hK => ?_) ?_
  · simp only [List.getElem_toArray, List.getElem_cons_succ, List.getElem_cons_zero]
    go_simp
    refine hK.out _ _ ?_ (fun hHeld => ?_)
    · (try dsimp only); (first | exact ⟨HoldsH.all (W := World.drew W2) H0, (Below.refl _ W2).drew⟩ | exact ⟨(H0.keep hb6 (by omega)).all, hb6⟩ | (have hb' := Below.trans (‹_ ∧ Below (w.heap.size + 1 + 1) W2 _›).2 (hb4.mono (by omega)); exact ⟨(H0.keep hb' (by omega)).all, hb'⟩) | (have hb' := Below.alloc (‹_ ∧ Below (w.heap.size + 1 + 1) W2 _›).2 (by rw [← HS]; exact (‹_ ∧ Below (w.heap.size + 1 + 1) W2 _›).2.size) (.cells #[] 5); exact ⟨(H0.keep hb' (by omega)).all, hb'⟩) | (have hb' := Below.alloc (‹_ ∧ Below (w.heap.size + 1 + 1) W2 _›).2 (by rw [← HS]; exact (‹_ ∧ Below (w.heap.size + 1 + 1) W2 _›).2.size) (.cells (hcells sz none 0 0 0) 45); exact ⟨(H0.keep hb' (by omega)).all, hb'⟩))
    clear hK K
    try simp only [Act.put, List.getElem_toArray, List.getElem_cons_succ, List.getElem_cons_zero, List.setIfInBounds_toArray, List.set_cons_zero, List.set_cons_succ]
    refine wpAnyH_ready (rs := [4]) (by kernel_rfl) (by simp) ?_
    refine AllReadyH.cons rfl (fun K hK => ?_) ?_
    · simp only [List.getElem_toArray, List.getElem_cons_succ, List.getElem_cons_zero]
      go_simp
      refine hK.out _ _ ?_ (fun hHeld => ?_)
      · (try dsimp only); (first | exact ⟨HoldsH.all (W := World.drew W2) H0, (Below.refl _ W2).drew⟩ | exact ⟨(H0.keep hb6 (by omega)).all, hb6⟩ | (have hb' := Below.trans (‹_ ∧ Below (w.heap.size + 1 + 1) W2 _›).2 (hb4.mono (by omega)); exact ⟨(H0.keep hb' (by omega)).all, hb'⟩) | (have hb' := Below.alloc (‹_ ∧ Below (w.heap.size + 1 + 1) W2 _›).2 (by rw [← HS]; exact (‹_ ∧ Below (w.heap.size + 1 + 1) W2 _›).2.size) (.cells #[] 5); exact ⟨(H0.keep hb' (by omega)).all, hb'⟩) | (have hb' := Below.alloc (‹_ ∧ Below (w.heap.size + 1 + 1) W2 _›).2 (by rw [← HS]; exact (‹_ ∧ Below (w.heap.size + 1 + 1) W2 _›).2.size) (.cells (hcells sz none 0 0 0) 45); exact ⟨(H0.keep hb' (by omega)).all, hb'⟩))
      clear hK K
      try simp only [Act.put, List.getElem_toArray, List.getElem_cons_succ, List.getElem_cons_zero, List.setIfInBounds_toArray, List.set_cons_zero, List.set_cons_succ]
      refine wpAnyH_ready (rs := [7]) (by kernel_rfl) (by simp) ?_
      refine AllReadyH.cons rfl (fun K hK => ?_) ?_
      · skip
        (first | (refine step_append_clone _ rfl (.tmp 13) (.tmp 15) _ rfl 5 i0 _ Tryd.underlying24 hi0 hz0 hz1 hz2 rfl (w.heap.size + 1 + 1 + 1) rfl (own_empty _ _ _ N1.2.1) A n c (r.map bv) rfl ((R1.more (by omega)).more (Nat.le_of_eq N1.2.2.symm)) (bv_one r) (by omega) (Nat.le_trans (Nat.le_succ _) (Nat.le_of_eq N1.2.2.symm)) ?_; intro A4 c4 w4 hS4' hk4 hb4; have hS4 := hS4'.imp (Y := fun b => b = w.heap.size + 1 + 1 + 1 ∨ w.heap.size + 1 + 1 + 1 + 1 ≤ b) (fun b _ hx => hx.imp id (fun h => Nat.le_trans (Nat.le_of_eq N1.2.2.symm) h)); clear hS4') | (refine step_append_clone _ rfl (.tmp 13) (.tmp 15) _ rfl 5 i0 _ Tryd.underlying24 hi0 hz0 hz1 hz2 rfl (w.heap.size + 1 + 1) rfl (own_empty _ _ _ N2.1) A n c (r.map bv) rfl ((R2.more (by omega)).more (Nat.le_of_eq N2.2.2.symm)) (bv_one r) (by omega) (Nat.le_trans (Nat.le_trans (Nat.le_succ _) (Nat.le_succ _)) (Nat.le_of_eq N2.2.2.symm)) ?_; intro A4 c4 w4 hS4' hk4 hb4; have hS4 := hS4'.imp (Y := fun b => b = w.heap.size + 1 + 1 ∨ w.heap.size + 1 + 1 + 1 + 1 ≤ b) (fun b _ hx => hx.imp id (fun h => Nat.le_trans (Nat.le_of_eq N2.2.2.symm) h)); clear hS4') | (refine step_append_clone _ rfl (.tmp 13) (.tmp 15) _ rfl 5 i0 _ Tryd.underlying24 hi0 hz0 hz1 hz2 rfl (w.heap.size + 1 + 1) rfl (own_empty _ _ _ N3) A n c (r.map bv) rfl (R3.more (Nat.le_of_eq Z3.symm)) (bv_one r) (by omega) (Nat.le_trans (Nat.le_succ _) (Nat.le_of_eq Z3.symm)) ?_; intro A4 c4 w4 hS4' hk4 hb4; have hS4 := hS4'.imp (Y := fun b => b = w.heap.size + 1 + 1 ∨ w.heap.size + 1 + 1 + 1 ≤ b) (fun b _ hx => hx.imp id (fun h => Nat.le_trans (Nat.le_of_eq Z3.symm) h)); clear hS4') | (refine step_store_h rfl (.tmp 6) (.tmp 17) rfl (w.heap.size + 1 + 1) s A4 n c4 m rfl rfl sz none 0 0 0 ((hk4 _ (Nat.lt_of_lt_of_eq (by omega) N1.2.2.symm) (by omega)).trans N1.1) Tryd.infoH (w.heap.size + 1 + 1) W2 (‹_ ∧ Below (w.heap.size + 1 + 1) W2 _›).2 (by omega) ?_; intro w6 Hg6 ho6 hs6 hb6; have hS6 := (hS4.keep (Nat.le_of_eq hs6.symm) (fun b _ hx => ho6 b (by omega))).imp (Y := fun b => w.heap.size + 1 < b ∧ b ≠ w.heap.size + 1 + 1) (fun b _ hx => by omega)) | (refine step_store_h rfl (.tmp 6) (.tmp 17) rfl (w.heap.size + 1 + 1 + 1) s A4 n c4 m rfl rfl sz none 0 0 0 ((hk4 _ (Nat.lt_of_lt_of_eq (by omega) N2.2.2.symm) (by omega)).trans N2.2.1) Tryd.infoH (w.heap.size + 1 + 1) W2 (‹_ ∧ Below (w.heap.size + 1 + 1) W2 _›).2 (by omega) ?_; intro w6 Hg6 ho6 hs6 hb6; have hS6 := (hS4.keep (Nat.le_of_eq hs6.symm) (fun b _ hx => ho6 b (by omega))).imp (Y := fun b => w.heap.size + 1 < b ∧ b ≠ w.heap.size + 1 + 1 + 1) (fun b _ hx => by omega)) | (refine step_store_h rfl (.tmp 6) (.tmp 17) rfl w4.heap.size s A4 n c4 m rfl rfl sz none 0 0 0 (heap_alloc_new w4 _) Tryd.infoH (w.heap.size + 1 + 1) W2 (‹_ ∧ Below (w.heap.size + 1 + 1) W2 _›).2 (Nat.le_trans (Nat.le_succ _) (Nat.le_trans (Nat.le_of_eq Z3.symm) hb4.size)) ?_; intro w6 Hg6 ho6 hs6 hb6; have hS6 := ((hS4.imp (Y := fun b => w.heap.size + 1 < b ∧ b ≠ w4.heap.size) (fun b hb hx => ⟨by omega, by omega⟩)).keep (Nat.le_trans (Nat.le_succ _) (Nat.le_of_eq ((World.size_alloc ..).symm.trans hs6.symm))) (fun b hb hx => (ho6 b hx.2).trans ((heap_alloc_other w4 _ hb))))))
        refine hK.out _ _ ?_ (fun hHeld => ?_)
        · (try dsimp only); (first | exact ⟨HoldsH.all (W := World.drew W2) H0, (Below.refl _ W2).drew⟩ | exact ⟨(H0.keep hb6 (by omega)).all, hb6⟩ | (have hb' := Below.trans (‹_ ∧ Below (w.heap.size + 1 + 1) W2 _›).2 (hb4.mono (by omega)); exact ⟨(H0.keep hb' (by omega)).all, hb'⟩) | (have hb' := Below.alloc (‹_ ∧ Below (w.heap.size + 1 + 1) W2 _›).2 (by rw [← HS]; exact (‹_ ∧ Below (w.heap.size + 1 + 1) W2 _›).2.size) (.cells #[] 5); exact ⟨(H0.keep hb' (by omega)).all, hb'⟩) | (have hb' := Below.alloc (‹_ ∧ Below (w.heap.size + 1 + 1) W2 _›).2 (by rw [← HS]; exact (‹_ ∧ Below (w.heap.size + 1 + 1) W2 _›).2.size) (.cells (hcells sz none 0 0 0) 45); exact ⟨(H0.keep hb' (by omega)).all, hb'⟩))
        clear hK K
        try simp only [Act.put, List.getElem_toArray, List.getElem_cons_succ, List.getElem_cons_zero, List.setIfInBounds_toArray, List.set_cons_zero, List.set_cons_succ]
        refine wpAnyH_take (i := 8) (v := ?_) rfl (by kernel_rfl) (by kernel_rfl) (by kernel_rfl) (fun _ _ _ h => h) (Or.inl ⟨by rfl, ?_⟩) (by assumption) ?_
        rotate_left
        · intro w hSw; (try dsimp only at hSw); go_simp <;> with_reducible rfl
        try simp only [Act.put, List.getElem_toArray, List.getElem_cons_succ, List.getElem_cons_zero, List.setIfInBounds_toArray, List.set_cons_zero, List.set_cons_succ]
        refine wpAnyH_ready (rs := [10]) (by kernel_rfl) (by simp) ?_
        refine AllReadyH.cons rfl (fun K hK => ?_) ?_
        · skip
          (first | (refine step_append_clone _ rfl (.tmp 13) (.tmp 15) _ rfl 5 i0 _ Tryd.underlying24 hi0 hz0 hz1 hz2 rfl (w.heap.size + 1 + 1 + 1) rfl (own_empty _ _ _ N1.2.1) A n c (r.map bv) rfl ((R1.more (by omega)).more (Nat.le_of_eq N1.2.2.symm)) (bv_one r) (by omega) (Nat.le_trans (Nat.le_succ _) (Nat.le_of_eq N1.2.2.symm)) ?_; intro A4 c4 w4 hS4' hk4 hb4; have hS4 := hS4'.imp (Y := fun b => b = w.heap.size + 1 + 1 + 1 ∨ w.heap.size + 1 + 1 + 1 + 1 ≤ b) (fun b _ hx => hx.imp id (fun h => Nat.le_trans (Nat.le_of_eq N1.2.2.symm) h)); clear hS4') | (refine step_append_clone _ rfl (.tmp 13) (.tmp 15) _ rfl 5 i0 _ Tryd.underlying24 hi0 hz0 hz1 hz2 rfl (w.heap.size + 1 + 1) rfl (own_empty _ _ _ N2.1) A n c (r.map bv) rfl ((R2.more (by omega)).more (Nat.le_of_eq N2.2.2.symm)) (bv_one r) (by omega) (Nat.le_trans (Nat.le_trans (Nat.le_succ _) (Nat.le_succ _)) (Nat.le_of_eq N2.2.2.symm)) ?_; intro A4 c4 w4 hS4' hk4 hb4; have hS4 := hS4'.imp (Y := fun b => b = w.heap.size + 1 + 1 ∨ w.heap.size + 1 + 1 + 1 + 1 ≤ b) (fun b _ hx => hx.imp id (fun h => Nat.le_trans (Nat.le_of_eq N2.2.2.symm) h)); clear hS4') | (refine step_append_clone _ rfl (.tmp 13) (.tmp 15) _ rfl 5 i0 _ Tryd.underlying24 hi0 hz0 hz1 hz2 rfl (w.heap.size + 1 + 1) rfl (own_empty _ _ _ N3) A n c (r.map bv) rfl (R3.more (Nat.le_of_eq Z3.symm)) (bv_one r) (by omega) (Nat.le_trans (Nat.le_succ _) (Nat.le_of_eq Z3.symm)) ?_; intro A4 c4 w4 hS4' hk4 hb4; have hS4 := hS4'.imp (Y := fun b => b = w.heap.size + 1 + 1 ∨ w.heap.size + 1 + 1 + 1 ≤ b) (fun b _ hx => hx.imp id (fun h => Nat.le_trans (Nat.le_of_eq Z3.symm) h)); clear hS4') | (refine step_store_h rfl (.tmp 6) (.tmp 17) rfl (w.heap.size + 1 + 1) s A4 n c4 m rfl rfl sz none 0 0 0 ((hk4 _ (Nat.lt_of_lt_of_eq (by omega) N1.2.2.symm) (by omega)).trans N1.1) Tryd.infoH (w.heap.size + 1 + 1) W2 (‹_ ∧ Below (w.heap.size + 1 + 1) W2 _›).2 (by omega) ?_; intro w6 Hg6 ho6 hs6 hb6; have hS6 := (hS4.keep (Nat.le_of_eq hs6.symm) (fun b _ hx => ho6 b (by omega))).imp (Y := fun b => w.heap.size + 1 < b ∧ b ≠ w.heap.size + 1 + 1) (fun b _ hx => by omega)) | (refine step_store_h rfl (.tmp 6) (.tmp 17) rfl (w.heap.size + 1 + 1 + 1) s A4 n c4 m rfl rfl sz none 0 0 0 ((hk4 _ (Nat.lt_of_lt_of_eq (by omega) N2.2.2.symm) (by omega)).trans N2.2.1) Tryd.infoH (w.heap.size + 1 + 1) W2 (‹_ ∧ Below (w.heap.size + 1 + 1) W2 _›).2 (by omega) ?_; intro w6 Hg6 ho6 hs6 hb6; have hS6 := (hS4.keep (Nat.le_of_eq hs6.symm) (fun b _ hx => ho6 b (by omega))).imp (Y := fun b => w.heap.size + 1 < b ∧ b ≠ w.heap.size + 1 + 1 + 1) (fun b _ hx => by omega)) | (refine step_store_h rfl (.tmp 6) (.tmp 17) rfl w4.heap.size s A4 n c4 m rfl rfl sz none 0 0 0 (heap_alloc_new w4 _) Tryd.infoH (w.heap.size + 1 + 1) W2 (‹_ ∧ Below (w.heap.size + 1 + 1) W2 _›).2 (Nat.le_trans (Nat.le_succ _) (Nat.le_trans (Nat.le_of_eq Z3.symm) hb4.size)) ?_; intro w6 Hg6 ho6 hs6 hb6; have hS6 := ((hS4.imp (Y := fun b => w.heap.size + 1 < b ∧ b ≠ w4.heap.size) (fun b hb hx => ⟨by omega, by omega⟩)).keep (Nat.le_trans (Nat.le_succ _) (Nat.le_of_eq ((World.size_alloc ..).symm.trans hs6.symm))) (fun b hb hx => (ho6 b hx.2).trans ((heap_alloc_other w4 _ hb))))))
          refine hK.out _ _ ?_ (fun hHeld => ?_)
          · (try dsimp only); (first | exact ⟨HoldsH.all (W := World.drew W2) H0, (Below.refl _ W2).drew⟩ | exact ⟨(H0.keep hb6 (by omega)).all, hb6⟩ | (have hb' := Below.trans (‹_ ∧ Below (w.heap.size + 1 + 1) W2 _›).2 (hb4.mono (by omega)); exact ⟨(H0.keep hb' (by omega)).all, hb'⟩) | (have hb' := Below.alloc (‹_ ∧ Below (w.heap.size + 1 + 1) W2 _›).2 (by rw [← HS]; exact (‹_ ∧ Below (w.heap.size + 1 + 1) W2 _›).2.size) (.cells #[] 5); exact ⟨(H0.keep hb' (by omega)).all, hb'⟩) | (have hb' := Below.alloc (‹_ ∧ Below (w.heap.size + 1 + 1) W2 _›).2 (by rw [← HS]; exact (‹_ ∧ Below (w.heap.size + 1 + 1) W2 _›).2.size) (.cells (hcells sz none 0 0 0) 45); exact ⟨(H0.keep hb' (by omega)).all, hb'⟩))
          clear hK K
          try simp only [Act.put, List.getElem_toArray, List.getElem_cons_succ, List.getElem_cons_zero, List.setIfInBounds_toArray, List.set_cons_zero, List.set_cons_succ]
          refine wpAnyH_done (by kernel_rfl) ?_ _
          refine NoPanic.normal ?_
          have H1' := H1.keep hb6 (by omega)
          have H0' := H0.keep hb6 (by omega)
          have HB' := HB.trans (hb6.mono (by omega))
          clear H0 H1 HB hr2 N1 N2 N3 Z3 R1 R2 R3 hS4 hk4 hb4 ho6 hs6 hb6
          go_wp2_with (first
            | (with_reducible refine wpList_load_h rfl (.tmp 2) rfl w.heap.size rfl s A n c m H0' Tryd.underlying45 Tryd.infoH ?_)
            | (go_at_call 42
               refine (HM.out _).mono ?_
               rintro e w7 ⟨rfl, hb7⟩
               have Hg7 := Hg6.keep hb7 Hg6.lt
               have H1'' := H1'.keep hb7 H1'.lt
               have HB'' := HB'.trans (hb7.mono HB'.size)
               have hS7 := hS6.keep hb7.size (fun b hb _ => hb7.block b hb))
            | (with_reducible refine wpList_load_h rfl (.tmp 6) rfl _ rfl s A4 n c4 m Hg7 Tryd.underlying45 Tryd.infoH ?_)
            | (with_reducible refine wpList_store_h rfl (.tmp 4) (.tmp 22) rfl (w.heap.size + 1) s A4 n c4 m rfl rfl sz none 0 0 0 H1'' Tryd.infoH w.heap.size w HB'' (by omega) ?_; intro w8 Hg ho hsz hb8))
          exact bodyPost_ret (results_cell_tmp rfl _ _ (w.heap.size + 1) _ _ _ _ rfl Hg Tryd.underlying45 rfl (by rw [Tryd.infoH]; rfl)) rfl
            ⟨A4, c4, rfl, (hS7.keep (Nat.le_of_eq hsz.symm) (fun b _ hx => ho b (by omega))).1, hb8⟩
        exact AllReadyH.nil
      exact AllReadyH.nil
    exact AllReadyH.nil
  exact AllReadyH.nil
end Go.Proofs.YtppaffamlfghjaaDoor
