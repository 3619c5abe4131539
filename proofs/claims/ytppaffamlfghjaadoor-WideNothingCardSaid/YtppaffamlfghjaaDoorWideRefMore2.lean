/-
  More where it may: the document's way.
-/
import Derived.Test.YtppaffamlfghjaaDoorWideRefMore
import Derived.Test.YtppaffamlfghjaaDoorWideGoOn
import Derived.Deep.RegionHeld3
import Derived.Deep.RegionWith
namespace Go.Proofs.YtppaffamlfghjaaDoor
open Go.RowKit

theorem addr_block {a p b o : Nat} (h : (some (⟨a, p, none⟩ : Addr)) = some ⟨b, o, none⟩) : a = b := congrArg Addr.block (Option.some.inj h)

theorem SeesIn.take {w : World} {A : Option Addr} {n c : Nat} {xs : List Value} {X : Nat → Prop} (h : SeesIn w A n c xs X) {k : Nat} (hk : k ≤ n) : SeesIn w A k c (xs.take k) X := ⟨h.1.take hk, fun b o e hn => h.2 b o e (by omega)⟩

set_option maxRecDepth 100000 in
set_option maxHeartbeats 12000000 in
theorem RMore_ok (A A2 : Option Addr) (n c n2 c2 m B : Nat) (r b : List UInt8) (s : St) (w : World) (h : Sees w B A n c (r.map bv)) (h2 : Sees w B A2 n2 c2 (b.map bv)) (hB : B ≤ w.heap.size) (hn : n < 128) (hm2 : n2 ≤ 1000000) (N' : Nat) (hN' : (left (r ++ b)).length = N') (hmay : (decide (n < 128) && ((n : Int) == (m : Int) % 128)) = true) :
    Calls Tryd.prog 23 #[hv s A n c m, .slice A2 n2 c2] w fun e w' => ∃ A' c', e = .returned (.tuple #[hv (absorb s (r ++ b)) A' N' c' ((m + n2) % 18446744073709551616), .int .i64 0]) ∧ Sees w' w'.heap.size A' N' c' ((left (r ++ b)).map bv) ∧ Below w.heap.size w w' := by
  obtain ⟨i0, hi0, hz0, hz1, hz2⟩ := info_parts Tryd.infoU8
  have HM : Hid (∀ W, Calls Tryd.prog 42 #[hv s A n c m] W fun e w' => e = .returned (.bool true) ∧ Below W.heap.size W w') := Lib.hid fun W => by
    have := May_any s A n c m W (by omega)
    rwa [hmay] at this
  clear hmay
  have hlr : Hid (r.length = n) := Lib.hid (by have := h.len; simpa using this)
  have hlb : Hid (b.length = n2) := Lib.hid (by have := h2.len; simpa using this)
  have hNl := Lib.hid hN'
  clear hN'
  have hwm : IntKind.u64.wrap ((m : Int) + (n2 : Int)) = (((m + n2) % 18446744073709551616 : Nat) : Int) := by rw [IntKind.wrap_u64]; omega
  generalize (m + n2) % 18446744073709551616 = mm at *
  have HST := h_start w s A n c m #[.int .u64 (s.a.toNat : Int), .int .u64 (s.b.toNat : Int), .int .u64 (s.c.toNat : Int), .int .u64 (s.d.toNat : Int), .int .u64 (s.e.toNat : Int), .int .u64 (s.f.toNat : Int), .int .u64 (s.g.toNat : Int), .int .u64 (s.h.toNat : Int), .slice A n c, .int .u64 (m : Int)]
    #[.int .u64 0, .int .u64 0, .int .u64 0, .int .u64 0, .int .u64 0, .int .u64 0, .int .u64 0, .int .u64 0, .slice none 0 0, .int .u64 0] rfl rfl
  rw [hv_cells]
  unfold hcells
  go_enter Tryd.func23, Tryd.ntmps23
  go_wp2
  generalize hW : World.alloc (World.alloc w _) _ = W2 at *
  obtain ⟨H0, H1, HB, HS⟩ := HST
  clear hW
  have hr2 := (h.upTo HB hB).more (show B ≤ W2.heap.size by omega)
  have N1 := new_two W2.drew (.cells (hcells sz none 0 0 0) 45) (.cells #[] 5)
  have N2 := new_two W2.drew (.cells #[] 5) (.cells (hcells sz none 0 0 0) 45)
  have N3 := heap_alloc_new W2.drew (.cells #[] 5)
  have Z3 : (W2.drew.alloc (.cells #[] 5)).heap.size = w.heap.size + 1 + 1 + 1 := by rw [World.size_alloc]; exact congrArg (· + 1) HS
  rw [show W2.drew.heap.size = w.heap.size + 1 + 1 from HS] at N1 N2 N3
  have R1 := ((hr2.drew.alloc (Nat.le_refl _) (.cells (hcells sz none 0 0 0) 45)).more (show W2.heap.size ≤ w.heap.size + 1 + 1 + 1 by omega)).alloc (by rw [World.size_alloc]; exact Nat.le_of_eq (congrArg (· + 1) HS.symm)) (.cells #[] 5)
  have R2 := ((hr2.drew.alloc (Nat.le_refl _) (.cells #[] 5)).more (show W2.heap.size ≤ w.heap.size + 1 + 1 + 1 by omega)).alloc (by rw [World.size_alloc]; exact Nat.le_of_eq (congrArg (· + 1) HS.symm)) (.cells (hcells sz none 0 0 0) 45)
  have R3 := (hr2.drew.alloc (Nat.le_refl _) (.cells #[] 5)).more (show W2.heap.size ≤ w.heap.size + 1 + 1 + 1 by omega)
  refine wp_region_noPanic ?_
  refine wp_region_held_drew (S := (fun W => (W.cell? ⟨w.heap.size, 0, none⟩ = some (.int .u64 (s.a.toNat : Int)) ∧ W.cell? ⟨w.heap.size, 1, none⟩ = some (.int .u64 (s.b.toNat : Int)) ∧ W.cell? ⟨w.heap.size, 2, none⟩ = some (.int .u64 (s.c.toNat : Int)) ∧ W.cell? ⟨w.heap.size, 3, none⟩ = some (.int .u64 (s.d.toNat : Int)) ∧ W.cell? ⟨w.heap.size, 4, none⟩ = some (.int .u64 (s.e.toNat : Int)) ∧ W.cell? ⟨w.heap.size, 5, none⟩ = some (.int .u64 (s.f.toNat : Int)) ∧ W.cell? ⟨w.heap.size, 6, none⟩ = some (.int .u64 (s.g.toNat : Int)) ∧ W.cell? ⟨w.heap.size, 7, none⟩ = some (.int .u64 (s.h.toNat : Int)) ∧ W.cell? ⟨w.heap.size, 8, none⟩ = some (.slice A n c) ∧ W.cell? ⟨w.heap.size, 9, none⟩ = some (.int .u64 (m : Int))) ∧ Below (w.heap.size + 1 + 1) W2 W)) (by kernel_rfl) (by (try dsimp only); (first | exact ⟨HoldsH.all (W := World.drew W2) H0, (Below.refl _ W2).drew⟩ | exact ⟨(H0.keep hb6 (by omega)).all, hb6⟩ | (have hb' := Below.trans (‹_ ∧ Below (w.heap.size + 1 + 1) W2 _›).2 (hb4.mono (by omega)); exact ⟨(H0.keep hb' (by omega)).all, hb'⟩) | (have hb' := Below.alloc (‹_ ∧ Below (w.heap.size + 1 + 1) W2 _›).2 (by rw [← HS]; exact (‹_ ∧ Below (w.heap.size + 1 + 1) W2 _›).2.size) (.cells #[] 5); exact ⟨(H0.keep hb' (by omega)).all, hb'⟩) | (have hb' := Below.alloc (‹_ ∧ Below (w.heap.size + 1 + 1) W2 _›).2 (by rw [← HS]; exact (‹_ ∧ Below (w.heap.size + 1 + 1) W2 _›).2.size) (.cells (hcells sz none 0 0 0) 45); exact ⟨(H0.keep hb' (by omega)).all, hb'⟩))) (fun hHeld => ?_)
  refine wpAnyH_take (i := 0) (v := ?_) rfl (by kernel_rfl) (by kernel_rfl) (by kernel_rfl) (fun _ _ _ h => h) (Or.inl ⟨by rfl, ?_⟩) (by assumption) ?_
  rotate_left
  · intro w hSw; (try dsimp only at hSw); go_simp <;> with_reducible rfl
  try simp only [Act.put, List.getElem_toArray, List.getElem_cons_succ, List.getElem_cons_zero, List.setIfInBounds_toArray, List.set_cons_zero, List.set_cons_succ]
  refine wpAnyH_take (i := 1) (v := ?_) rfl (by kernel_rfl) (by kernel_rfl) (by kernel_rfl) (fun _ _ _ h => h) (Or.inl ⟨by rfl, ?_⟩) (by assumption) ?_
  rotate_left
  · intro w hSw; (try dsimp only at hSw); go_simp <;> with_reducible rfl
  try simp only [Act.put, List.getElem_toArray, List.getElem_cons_succ, List.getElem_cons_zero, List.setIfInBounds_toArray, List.set_cons_zero, List.set_cons_succ]
  refine wpAnyH_take (i := 2) (v := ?_) rfl (by kernel_rfl) (by kernel_rfl) (by kernel_rfl) (fun _ _ _ h => h) (Or.inl ⟨by rfl, ?_⟩) (by assumption) ?_
  rotate_left
  · intro w hSw; (try dsimp only at hSw); go_simp <;> with_reducible rfl
  try simp only [Act.put, List.getElem_toArray, List.getElem_cons_succ, List.getElem_cons_zero, List.setIfInBounds_toArray, List.set_cons_zero, List.set_cons_succ]
  refine wpAnyH_take (i := 3) (v := ?_) rfl (by kernel_rfl) (by kernel_rfl) (by kernel_rfl) (fun _ _ _ h => h) (Or.inl ⟨by rfl, ?_⟩) (by assumption) ?_
  rotate_left
  · intro w hSw; (try dsimp only at hSw); go_simp <;> with_reducible rfl
  try simp only [Act.put, List.getElem_toArray, List.getElem_cons_succ, List.getElem_cons_zero, List.setIfInBounds_toArray, List.set_cons_zero, List.set_cons_succ]
  refine wpAnyH_take (i := 5) (v := ?_) rfl (by kernel_rfl) (by kernel_rfl) (by kernel_rfl) (fun _ _ _ h => h) (Or.inl ⟨by rfl, ?_⟩) (by assumption) ?_
  rotate_left
  · intro w hSw; (try dsimp only at hSw); go_simp <;> with_reducible rfl
  try simp only [Act.put, List.getElem_toArray, List.getElem_cons_succ, List.getElem_cons_zero, List.setIfInBounds_toArray, List.set_cons_zero, List.set_cons_succ]
  refine wpAnyH_take (i := 6) (v := ?_) rfl (by kernel_rfl) (by kernel_rfl) (by kernel_rfl) (fun _ _ _ h => h) (Or.inl ⟨by rfl, ?_⟩) (by assumption) ?_
  rotate_left
  · intro w hSw; (try dsimp only at hSw); go_simp <;> with_reducible rfl
  try simp only [Act.put, List.getElem_toArray, List.getElem_cons_succ, List.getElem_cons_zero, List.setIfInBounds_toArray, List.set_cons_zero, List.set_cons_succ]
  refine wpAnyH_ready (rs := [4, 9]) (by kernel_rfl) (by simp) ?_
  refine AllReadyH.cons rfl (fun K hK => ?_) ?_
  · simp only [List.getElem_toArray, List.getElem_cons_succ, List.getElem_cons_zero]
    go_simp
    refine hK.out _ _ ?_ (fun hHeld => ?_)
    · (try dsimp only); (first | exact ⟨HoldsH.all (W := World.drew W2) H0, (Below.refl _ W2).drew⟩ | exact ⟨(H0.keep hb6 (by omega)).all, hb6⟩ | (have hb' := Below.trans (‹_ ∧ Below (w.heap.size + 1 + 1) W2 _›).2 (hb4.mono (by omega)); exact ⟨(H0.keep hb' (by omega)).all, hb'⟩) | (have hb' := Below.alloc (‹_ ∧ Below (w.heap.size + 1 + 1) W2 _›).2 (by rw [← HS]; exact (‹_ ∧ Below (w.heap.size + 1 + 1) W2 _›).2.size) (.cells #[] 5); exact ⟨(H0.keep hb' (by omega)).all, hb'⟩) | (have hb' := Below.alloc (‹_ ∧ Below (w.heap.size + 1 + 1) W2 _›).2 (by rw [← HS]; exact (‹_ ∧ Below (w.heap.size + 1 + 1) W2 _›).2.size) (.cells (hcells sz none 0 0 0) 45); exact ⟨(H0.keep hb' (by omega)).all, hb'⟩))
    clear hK K
    try simp only [Act.put, List.getElem_toArray, List.getElem_cons_succ, List.getElem_cons_zero, List.setIfInBounds_toArray, List.set_cons_zero, List.set_cons_succ]
    refine wpAnyH_ready (rs := [7, 9]) (by kernel_rfl) (by simp) ?_
    refine AllReadyH.cons rfl (fun K hK => ?_) ?_
    · skip
      (first | (refine step_append_clone _ rfl (.tmp 13) (.tmp 15) _ rfl 5 i0 _ Tryd.underlying24 hi0 hz0 hz1 hz2 rfl (w.heap.size + 1 + 1 + 1) rfl (own_empty _ _ _ N1.2.1) A n c (r.map bv) rfl ((R1.more (by omega)).more (Nat.le_of_eq N1.2.2.symm)) (bv_one r) (by omega) (Nat.le_trans (Nat.le_succ _) (Nat.le_of_eq N1.2.2.symm)) ?_; intro A4 c4 w4 hS4' hk4 hb4; have hS4 := hS4'.imp (Y := fun b => b = w.heap.size + 1 + 1 + 1 ∨ w.heap.size + 1 + 1 + 1 + 1 ≤ b) (fun b _ hx => hx.imp id (fun h => Nat.le_trans (Nat.le_of_eq N1.2.2.symm) h)); clear hS4') | (refine step_append_clone _ rfl (.tmp 13) (.tmp 15) _ rfl 5 i0 _ Tryd.underlying24 hi0 hz0 hz1 hz2 rfl (w.heap.size + 1 + 1) rfl (own_empty _ _ _ N2.1) A n c (r.map bv) rfl ((R2.more (by omega)).more (Nat.le_of_eq N2.2.2.symm)) (bv_one r) (by omega) (Nat.le_trans (Nat.le_trans (Nat.le_succ _) (Nat.le_succ _)) (Nat.le_of_eq N2.2.2.symm)) ?_; intro A4 c4 w4 hS4' hk4 hb4; have hS4 := hS4'.imp (Y := fun b => b = w.heap.size + 1 + 1 ∨ w.heap.size + 1 + 1 + 1 + 1 ≤ b) (fun b _ hx => hx.imp id (fun h => Nat.le_trans (Nat.le_of_eq N2.2.2.symm) h)); clear hS4') | (refine step_append_clone _ rfl (.tmp 13) (.tmp 15) _ rfl 5 i0 _ Tryd.underlying24 hi0 hz0 hz1 hz2 rfl (w.heap.size + 1 + 1) rfl (own_empty _ _ _ N3) A n c (r.map bv) rfl (R3.more (Nat.le_of_eq Z3.symm)) (bv_one r) (by omega) (Nat.le_trans (Nat.le_succ _) (Nat.le_of_eq Z3.symm)) ?_; intro A4 c4 w4 hS4' hk4 hb4; have hS4 := hS4'.imp (Y := fun b => b = w.heap.size + 1 + 1 ∨ w.heap.size + 1 + 1 + 1 ≤ b) (fun b _ hx => hx.imp id (fun h => Nat.le_trans (Nat.le_of_eq Z3.symm) h)); clear hS4') | (refine step_store_h rfl (.tmp 6) (.tmp 17) rfl (w.heap.size + 1 + 1) s A4 n c4 m rfl rfl sz none 0 0 0 ((hk4 _ (Nat.lt_of_lt_of_eq (by omega) N1.2.2.symm) (by omega)).trans N1.1) Tryd.infoH (w.heap.size + 1 + 1) W2 (‹_ ∧ Below (w.heap.size + 1 + 1) W2 _›).2 (by omega) ?_; intro w6 Hg6 ho6 hs6 hb6; have hG6 : w.heap.size + 1 + 1 ≤ w.heap.size + 1 + 1 := Nat.le_refl _; have hS6 := (hS4.keep (Nat.le_of_eq hs6.symm) (fun b _ hx => ho6 b (by omega))).imp (Y := fun b => w.heap.size + 1 < b ∧ b ≠ w.heap.size + 1 + 1) (fun b _ hx => by omega)) | (refine step_store_h rfl (.tmp 6) (.tmp 17) rfl (w.heap.size + 1 + 1 + 1) s A4 n c4 m rfl rfl sz none 0 0 0 ((hk4 _ (Nat.lt_of_lt_of_eq (by omega) N2.2.2.symm) (by omega)).trans N2.2.1) Tryd.infoH (w.heap.size + 1 + 1) W2 (‹_ ∧ Below (w.heap.size + 1 + 1) W2 _›).2 (by omega) ?_; intro w6 Hg6 ho6 hs6 hb6; have hG6 : w.heap.size + 1 + 1 ≤ w.heap.size + 1 + 1 + 1 := Nat.le_succ _; have hS6 := (hS4.keep (Nat.le_of_eq hs6.symm) (fun b _ hx => ho6 b (by omega))).imp (Y := fun b => w.heap.size + 1 < b ∧ b ≠ w.heap.size + 1 + 1 + 1) (fun b _ hx => by omega)) | (refine step_store_h rfl (.tmp 6) (.tmp 17) rfl w4.heap.size s A4 n c4 m rfl rfl sz none 0 0 0 (heap_alloc_new w4 _) Tryd.infoH (w.heap.size + 1 + 1) W2 (‹_ ∧ Below (w.heap.size + 1 + 1) W2 _›).2 (Nat.le_trans (Nat.le_succ _) (Nat.le_trans (Nat.le_of_eq Z3.symm) hb4.size)) ?_; intro w6 Hg6 ho6 hs6 hb6; have hG6 : w.heap.size + 1 + 1 ≤ w4.heap.size := Nat.le_trans (Nat.le_succ _) (Nat.le_trans (Nat.le_of_eq Z3.symm) hb4.size); have hS6 := ((hS4.imp (Y := fun b => w.heap.size + 1 < b ∧ b ≠ w4.heap.size) (fun b hb hx => ⟨by omega, by omega⟩)).keep (Nat.le_trans (Nat.le_succ _) (Nat.le_of_eq ((World.size_alloc ..).symm.trans hs6.symm))) (fun b hb hx => (ho6 b hx.2).trans ((heap_alloc_other w4 _ hb))))))
      refine hK.out _ _ ?_ (fun hHeld => ?_)
      · (try dsimp only); (first | exact ⟨HoldsH.all (W := World.drew W2) H0, (Below.refl _ W2).drew⟩ | exact ⟨(H0.keep hb6 (by omega)).all, hb6⟩ | (have hb' := Below.trans (‹_ ∧ Below (w.heap.size + 1 + 1) W2 _›).2 (hb4.mono (by omega)); exact ⟨(H0.keep hb' (by omega)).all, hb'⟩) | (have hb' := Below.alloc (‹_ ∧ Below (w.heap.size + 1 + 1) W2 _›).2 (by rw [← HS]; exact (‹_ ∧ Below (w.heap.size + 1 + 1) W2 _›).2.size) (.cells #[] 5); exact ⟨(H0.keep hb' (by omega)).all, hb'⟩) | (have hb' := Below.alloc (‹_ ∧ Below (w.heap.size + 1 + 1) W2 _›).2 (by rw [← HS]; exact (‹_ ∧ Below (w.heap.size + 1 + 1) W2 _›).2.size) (.cells (hcells sz none 0 0 0) 45); exact ⟨(H0.keep hb' (by omega)).all, hb'⟩))
      clear hK K
      try simp only [Act.put, List.getElem_toArray, List.getElem_cons_succ, List.getElem_cons_zero, List.setIfInBounds_toArray, List.set_cons_zero, List.set_cons_succ]
      refine wpAnyH_take (i := 8) (v := ?_) rfl (by kernel_rfl) (by kernel_rfl) (by kernel_rfl) (fun _ _ _ h => h) (Or.inl ⟨by rfl, ?_⟩) (by assumption) ?_
      rotate_left
      · intro w hSw; (try dsimp only at hSw); go_simp <;> with_reducible rfl
      try simp only [Act.put, List.getElem_toArray, List.getElem_cons_succ, List.getElem_cons_zero, List.setIfInBounds_toArray, List.set_cons_zero, List.set_cons_succ]
      refine wpAnyH_ready (rs := [9]) (by kernel_rfl) (by simp) ?_
      refine AllReadyH.cons rfl (fun K hK => ?_) ?_
      · simp only [List.getElem_toArray, List.getElem_cons_succ, List.getElem_cons_zero]
        go_simp
        refine hK.out _ _ ?_ (fun hHeld => ?_)
        · (try dsimp only); (first | exact ⟨HoldsH.all (W := World.drew W2) H0, (Below.refl _ W2).drew⟩ | exact ⟨(H0.keep hb6 (by omega)).all, hb6⟩ | (have hb' := Below.trans (‹_ ∧ Below (w.heap.size + 1 + 1) W2 _›).2 (hb4.mono (by omega)); exact ⟨(H0.keep hb' (by omega)).all, hb'⟩) | (have hb' := Below.alloc (‹_ ∧ Below (w.heap.size + 1 + 1) W2 _›).2 (by rw [← HS]; exact (‹_ ∧ Below (w.heap.size + 1 + 1) W2 _›).2.size) (.cells #[] 5); exact ⟨(H0.keep hb' (by omega)).all, hb'⟩) | (have hb' := Below.alloc (‹_ ∧ Below (w.heap.size + 1 + 1) W2 _›).2 (by rw [← HS]; exact (‹_ ∧ Below (w.heap.size + 1 + 1) W2 _›).2.size) (.cells (hcells sz none 0 0 0) 45); exact ⟨(H0.keep hb' (by omega)).all, hb'⟩))
        clear hK K
        try simp only [Act.put, List.getElem_toArray, List.getElem_cons_succ, List.getElem_cons_zero, List.setIfInBounds_toArray, List.set_cons_zero, List.set_cons_succ]
        refine wpAnyH_ready (rs := [10]) (by kernel_rfl) (by simp) ?_
        refine AllReadyH.cons rfl (fun K hK => ?_) ?_
        · skip
          (first | (refine step_append_clone _ rfl (.tmp 13) (.tmp 15) _ rfl 5 i0 _ Tryd.underlying24 hi0 hz0 hz1 hz2 rfl (w.heap.size + 1 + 1 + 1) rfl (own_empty _ _ _ N1.2.1) A n c (r.map bv) rfl ((R1.more (by omega)).more (Nat.le_of_eq N1.2.2.symm)) (bv_one r) (by omega) (Nat.le_trans (Nat.le_succ _) (Nat.le_of_eq N1.2.2.symm)) ?_; intro A4 c4 w4 hS4' hk4 hb4; have hS4 := hS4'.imp (Y := fun b => b = w.heap.size + 1 + 1 + 1 ∨ w.heap.size + 1 + 1 + 1 + 1 ≤ b) (fun b _ hx => hx.imp id (fun h => Nat.le_trans (Nat.le_of_eq N1.2.2.symm) h)); clear hS4') | (refine step_append_clone _ rfl (.tmp 13) (.tmp 15) _ rfl 5 i0 _ Tryd.underlying24 hi0 hz0 hz1 hz2 rfl (w.heap.size + 1 + 1) rfl (own_empty _ _ _ N2.1) A n c (r.map bv) rfl ((R2.more (by omega)).more (Nat.le_of_eq N2.2.2.symm)) (bv_one r) (by omega) (Nat.le_trans (Nat.le_trans (Nat.le_succ _) (Nat.le_succ _)) (Nat.le_of_eq N2.2.2.symm)) ?_; intro A4 c4 w4 hS4' hk4 hb4; have hS4 := hS4'.imp (Y := fun b => b = w.heap.size + 1 + 1 ∨ w.heap.size + 1 + 1 + 1 + 1 ≤ b) (fun b _ hx => hx.imp id (fun h => Nat.le_trans (Nat.le_of_eq N2.2.2.symm) h)); clear hS4') | (refine step_append_clone _ rfl (.tmp 13) (.tmp 15) _ rfl 5 i0 _ Tryd.underlying24 hi0 hz0 hz1 hz2 rfl (w.heap.size + 1 + 1) rfl (own_empty _ _ _ N3) A n c (r.map bv) rfl (R3.more (Nat.le_of_eq Z3.symm)) (bv_one r) (by omega) (Nat.le_trans (Nat.le_succ _) (Nat.le_of_eq Z3.symm)) ?_; intro A4 c4 w4 hS4' hk4 hb4; have hS4 := hS4'.imp (Y := fun b => b = w.heap.size + 1 + 1 ∨ w.heap.size + 1 + 1 + 1 ≤ b) (fun b _ hx => hx.imp id (fun h => Nat.le_trans (Nat.le_of_eq Z3.symm) h)); clear hS4') | (refine step_store_h rfl (.tmp 6) (.tmp 17) rfl (w.heap.size + 1 + 1) s A4 n c4 m rfl rfl sz none 0 0 0 ((hk4 _ (Nat.lt_of_lt_of_eq (by omega) N1.2.2.symm) (by omega)).trans N1.1) Tryd.infoH (w.heap.size + 1 + 1) W2 (‹_ ∧ Below (w.heap.size + 1 + 1) W2 _›).2 (by omega) ?_; intro w6 Hg6 ho6 hs6 hb6; have hG6 : w.heap.size + 1 + 1 ≤ w.heap.size + 1 + 1 := Nat.le_refl _; have hS6 := (hS4.keep (Nat.le_of_eq hs6.symm) (fun b _ hx => ho6 b (by omega))).imp (Y := fun b => w.heap.size + 1 < b ∧ b ≠ w.heap.size + 1 + 1) (fun b _ hx => by omega)) | (refine step_store_h rfl (.tmp 6) (.tmp 17) rfl (w.heap.size + 1 + 1 + 1) s A4 n c4 m rfl rfl sz none 0 0 0 ((hk4 _ (Nat.lt_of_lt_of_eq (by omega) N2.2.2.symm) (by omega)).trans N2.2.1) Tryd.infoH (w.heap.size + 1 + 1) W2 (‹_ ∧ Below (w.heap.size + 1 + 1) W2 _›).2 (by omega) ?_; intro w6 Hg6 ho6 hs6 hb6; have hG6 : w.heap.size + 1 + 1 ≤ w.heap.size + 1 + 1 + 1 := Nat.le_succ _; have hS6 := (hS4.keep (Nat.le_of_eq hs6.symm) (fun b _ hx => ho6 b (by omega))).imp (Y := fun b => w.heap.size + 1 < b ∧ b ≠ w.heap.size + 1 + 1 + 1) (fun b _ hx => by omega)) | (refine step_store_h rfl (.tmp 6) (.tmp 17) rfl w4.heap.size s A4 n c4 m rfl rfl sz none 0 0 0 (heap_alloc_new w4 _) Tryd.infoH (w.heap.size + 1 + 1) W2 (‹_ ∧ Below (w.heap.size + 1 + 1) W2 _›).2 (Nat.le_trans (Nat.le_succ _) (Nat.le_trans (Nat.le_of_eq Z3.symm) hb4.size)) ?_; intro w6 Hg6 ho6 hs6 hb6; have hG6 : w.heap.size + 1 + 1 ≤ w4.heap.size := Nat.le_trans (Nat.le_succ _) (Nat.le_trans (Nat.le_of_eq Z3.symm) hb4.size); have hS6 := ((hS4.imp (Y := fun b => w.heap.size + 1 < b ∧ b ≠ w4.heap.size) (fun b hb hx => ⟨by omega, by omega⟩)).keep (Nat.le_trans (Nat.le_succ _) (Nat.le_of_eq ((World.size_alloc ..).symm.trans hs6.symm))) (fun b hb hx => (ho6 b hx.2).trans ((heap_alloc_other w4 _ hb))))))
          refine hK.out _ _ ?_ (fun hHeld => ?_)
          · (try dsimp only); (first | exact ⟨HoldsH.all (W := World.drew W2) H0, (Below.refl _ W2).drew⟩ | exact ⟨(H0.keep hb6 (by omega)).all, hb6⟩ | (have hb' := Below.trans (‹_ ∧ Below (w.heap.size + 1 + 1) W2 _›).2 (hb4.mono (by omega)); exact ⟨(H0.keep hb' (by omega)).all, hb'⟩) | (have hb' := Below.alloc (‹_ ∧ Below (w.heap.size + 1 + 1) W2 _›).2 (by rw [← HS]; exact (‹_ ∧ Below (w.heap.size + 1 + 1) W2 _›).2.size) (.cells #[] 5); exact ⟨(H0.keep hb' (by omega)).all, hb'⟩) | (have hb' := Below.alloc (‹_ ∧ Below (w.heap.size + 1 + 1) W2 _›).2 (by rw [← HS]; exact (‹_ ∧ Below (w.heap.size + 1 + 1) W2 _›).2.size) (.cells (hcells sz none 0 0 0) 45); exact ⟨(H0.keep hb' (by omega)).all, hb'⟩))
          clear hK K
          try simp only [Act.put, List.getElem_toArray, List.getElem_cons_succ, List.getElem_cons_zero, List.setIfInBounds_toArray, List.set_cons_zero, List.set_cons_succ]
          refine wpAnyH_done (by kernel_rfl) ?_ _
          refine NoPanic.normal ?_
          have H1' := H1.keep hb6 (by omega)
          have H0' := H0.keep hb6 (by omega)
          have HB' := HB.trans (hb6.mono (by omega))
          clear H0 H1 HB hr2 N1 N2 N3 Z3 R1 R2 R3 hS6 hS4 hk4 hb4 ho6 hs6 hb6
          go_wp2_with (first
            | (with_reducible refine wpList_load_h rfl (.tmp 2) rfl w.heap.size rfl s A n c m H0' Tryd.underlying45 Tryd.infoH ?_)
            | (go_at_call 42
               refine (HM.out _).mono ?_
               rintro e w7 ⟨rfl, hb7⟩
               have Hg7 := Hg6.keep hb7 Hg6.lt
               have H1'' := H1'.keep hb7 H1'.lt
               have H0'' := H0'.keep hb7 H0'.lt
               have HB'' := HB'.trans (hb7.mono HB'.size)
               obtain ⟨_, _, _, _, _, _, _, _, k8, k9⟩ := H0''.all
               obtain ⟨_, _, _, _, _, _, _, _, _, j9⟩ := Hg7.all
               have f9 := Hg7.frozen 9
               have Hgm := Hg7.setMany mm
               have H1m := H1''.setOther ⟨(w4.heap.size), 9, none⟩ (.int .u64 (mm : Int)) (show w.heap.size + 1 ≠ (w4.heap.size) by omega)
               have HBm := HB''.setCell (p := ⟨(w4.heap.size), 9, none⟩) (show w.heap.size ≤ (w4.heap.size) by omega) (.int .u64 (mm : Int))
               have hszm : (w7.setCell ⟨(w4.heap.size), 9, none⟩ (.int .u64 (mm : Int))).heap.size = w7.heap.size := World.size_setCell ..
               have k8m : (w7.setCell ⟨(w4.heap.size), 9, none⟩ (.int .u64 (mm : Int))).cell? ⟨w.heap.size, 8, none⟩ = some (.slice A n c) := by rw [World.cell?_setCell_other _ _ _ _ (by intro e; injection e with e1 _ _; omega)]; exact k8
               have k8a : ∀ o, ((w7.setCell ⟨(w4.heap.size), 9, none⟩ (.int .u64 (mm : Int))).alloc o).cell? ⟨w.heap.size, 8, none⟩ = some (.slice A n c) := fun o => by rw [World.cell?_alloc_lt _ _ _ (show w.heap.size < _ by rw [hszm]; have := Hg7.lt; omega)]; exact k8m
               have hlt7 := Hg7.lt
               have hgsz : (w4.heap.size) < w7.heap.size := Hg7.lt
               clear hb7 H0'' Hg7 H1'' HB'')
            | (with_reducible refine wpList_append_sees _ rfl (.tmp 30) (.tmp 32) _ rfl w7.heap.size 5 i0 _ 1 Tryd.underlying24 hi0 hz0 hz1 hz2 rfl (.slice (some ⟨w7.heap.size, 0, none⟩) 0 0) 0 [] rfl (own_empty _ _ _ (by rw [← hszm]; exact heap_alloc_new _ _)) B A n c (r.map bv) rfl ((h.upTo HBm hB).alloc (by rw [hszm]; omega) _) (bv_one _) (by simp only [maxLen]; omega) (by omega) (by rw [World.size_alloc, hszm]; omega) w7.heap.size (w7.setCell ⟨(w4.heap.size), 9, none⟩ (.int .u64 (mm : Int))) ((Below.refl _ _).alloc (by rw [hszm]; exact Nat.le_refl _) _) (Nat.le_refl _) ?_; intro A5 c5 w8 hown8 hb8; simp only [Nat.zero_add, List.nil_append] at hown8; (try simp only [Nat.zero_add]))
            | (with_reducible refine wpList_append_sees _ rfl (.tmp 33) (.tmp 34) _ rfl w7.heap.size 5 i0 _ 1 Tryd.underlying24 hi0 hz0 hz1 hz2 rfl (.slice A5 n c5) n _ rfl hown8 B A2 n2 c2 (b.map bv) rfl ((h2.upTo HBm hB).upTo hb8 (by omega)) (bv_one _) (by simp only [maxLen]; omega) (by omega) (by have := hb8.size; rw [hszm] at this; exact this) w7.heap.size (w7.setCell ⟨(w4.heap.size), 9, none⟩ (.int .u64 (mm : Int))) hb8 (Nat.le_refl _) ?_; intro A6 c6 w9 hown9 hb9))
          have hA := seesIn_of_own hown9
          rw [← List.map_append] at hA
          have Hg9 := Hgm.keep hb9 hgsz
          have H19 := H1m.keep hb9 (show w.heap.size + 1 < w7.heap.size by omega)
          have HB9 := HBm.trans (hb9.mono (by omega))
          have hsz9 := hb9.size
          rw [hszm] at hsz9
          have hG7 : (w4.heap.size) < w7.heap.size := hgsz
          clear hown8 hb8 hown9 hb9 Hgm H1m HBm k8 k9 j9 f9 k8m k8a hszm
          go_loopw [8] (fun v wr => ∃ (s1 : St) (b1 : List UInt8) (A1 : Option Addr) (n1 c1 : Nat), v = .slice A1 n1 c1 ∧ n1 ≤ 2000000 ∧ SeesIn wr A1 n1 c1 (b1.map bv) (fun k => w7.heap.size ≤ k) ∧ absorb s1 b1 = absorb s (r ++ b) ∧ left b1 = left (r ++ b) ∧ HoldsH wr (w4.heap.size) s1 A4 n c4 mm ∧ HoldsH wr (w.heap.size + 1) sz none 0 0 0 ∧ Below w.heap.size w wr ∧ w7.heap.size ≤ wr.heap.size)
            (fun v _ => lenV v)
          case atStart => exact ⟨s, r ++ b, A6, n + n2, c6, rfl, by omega, hA, rfl, rfl, Hg9, H19, HB9, hsz9⟩
          case round =>
            clear hA Hg9 H19 HB9 hsz9
            obtain ⟨s1, b1, A1, n1, c1, rfl, hn1, hs1, ha, hl, H0, H1, HB, hsz⟩ := hrel
            have hlen : b1.length = n1 := by have := hs1.1.len; simpa using this
            by_cases hlt : n1 < 128
            · have hlt2 : ¬ (128 : Int) ≤ n1 := by omega
              have ha2 := Lib.hid (show absorb s (r ++ b) = s1 by rw [← ha]; exact absorb_short s1 (by omega))
              have hl2 := Lib.hid (show left (r ++ b) = b1 by rw [← hl]; exact left_short (by omega))
              obtain rfl : N' = n1 := by rw [← hNl.out, hl2.out, hlen]
              have hs11 : Sees wr wr.heap.size A1 N' c1 (b1.map bv) := hs1.1
              clear hlen ha hl
              go_wp2_with (first
                | (with_reducible refine wpList_append_clone _ rfl (.tmp 47) (.tmp 48) _ rfl 5 i0 _ Tryd.underlying24 hi0 hz0 hz1 hz2 rfl wr.heap.size rfl (own_empty _ _ _ (heap_alloc_new wr _)) A1 N' c1 (b1.map bv) rfl ((hs11.alloc (Nat.le_refl _) _).more (by rw [World.size_alloc]; omega)) (bv_one _) (by omega) (by rw [World.size_alloc]; omega) ?_
                   intro A7 c7 w10 hS10 hk10 hb10
                   have Hga := (H0.alloc (.cells #[] 5)).keep hb10 H0.lt
                   have H1a := (H1.alloc (.cells #[] 5)).keep hb10 H1.lt
                   have HBa := (HB.alloc HB.size (.cells #[] 5)).trans (hb10.mono HB.size)
                   have hS11 : SeesIn w10 A7 N' c7 (b1.map bv) (fun b => wr.heap.size ≤ b) := hS10.imp (fun b _ hx => by rcases hx with hx | hx; exact Nat.le_of_eq hx.symm; rw [World.size_alloc] at hx; omega)
                   obtain ⟨_, _, _, _, _, _, _, _, k8, _⟩ := Hga.all
                   have f8 := Hga.frozen 8
                   have L := Hga.setRest A7 N' c7
                   have Z := H1a.setOther ⟨(w4.heap.size), 8, none⟩ (.slice A7 N' c7) (show w.heap.size + 1 ≠ (w4.heap.size) by omega)
                   have HB2 := HBa.setCell (p := ⟨(w4.heap.size), 8, none⟩) (show w.heap.size ≤ (w4.heap.size) by omega) (.slice A7 N' c7)
                   have hz1' := H1.lt
                   clear hb10 hk10 hS10)
                | (with_reducible refine wpList_load_h rfl (.tmp 6) rfl (w4.heap.size) rfl s1 A7 N' c7 mm L Tryd.underlying45 Tryd.infoH ?_)
                | (with_reducible refine wpList_store_h rfl (.tmp 4) (.tmp 51) rfl (w.heap.size + 1) s1 A7 N' c7 mm rfl rfl sz none 0 0 0 Z Tryd.infoH w.heap.size w HB2 (by omega) ?_; intro w12 Hg ho hsz2 hb12))
              exact bodyPost_ret (results_cell_tmp rfl _ _ (w.heap.size + 1) _ _ _ _ rfl Hg Tryd.underlying45 rfl (by rw [Tryd.infoH]; rfl)) rfl
                ⟨A7, c7, by rw [ha2.out]; rfl, by rw [hl2.out]; exact (hS11.keep (by rw [hsz2, World.size_setCell]; exact Nat.le_refl _) (fun b _ hx => (ho b (by omega)).trans (heap_setCell_other w10 _ b _ (show b ≠ (w4.heap.size) by omega)))).1, hb12⟩
            · have hge : (128 : Int) ≤ n1 := by omega
              have hle1 := hs1.1.le
              obtain ⟨k0, k1, k2, k3, k4, k5, k6, k7, _, _⟩ := H0.all
              have ht := hs1.take (k := 128) (by omega)
              rw [← List.map_take] at ht
              have hd := hs1.1.drop (k := 128) (by omega)
              obtain ⟨ab, ao, _, rfl, _, _, _⟩ := hs1.1.cell (k := 0) (by omega)
              have hXa := hs1.2 ab ao rfl (by omega)
              rw [← List.map_drop] at hd
              have habs := Lib.hid ((absorb_long s1 (l := b1) (by omega)).symm.trans ha)
              have hlef := Lib.hid ((left_long (l := b1) (by omega)).symm.trans hl)
              have hbt := Lib.hid (blk_take s1 b1)
              have hc1 : 128 ≤ c1 := by omega
              clear hlen ha hl
              rcases Nat.lt_or_eq_of_le hc1 with hc64 | hc64
              all_goals
               first | (subst hc64; obtain rfl : n1 = 128 := by omega) | skip
               first | rw [if_pos rfl] at hd | (rw [if_neg (by omega)] at hd; simp only [Option.map_some, Addr.add_mid] at hd)
               go_wp2
               go_region_with ((go_at_call 43
                                have BI := block_any _ _ _ _ (b1.take 128) s1 wr.drew ht.1.drew (Nat.le_refl _) (Nat.le_refl _) (by omega)
                                rw [hbt.out] at BI
                                generalize blk s1 b1 = t at *
                                rw [sv_eq s1, sv_eq t] at BI
                                (with_reducible refine BI.mono ?_)
                                rintro e w11 ⟨rfl, hb11⟩
                                have F0 := HoldsH.keep (W := wr.drew) H0 hb11 H0.lt
                                have F1 := HoldsH.keep (W := wr.drew) H1 hb11 H1.lt
                                have FB := HB.drew.trans (hb11.mono HB.size)
                                obtain ⟨f0, f1, f2, f3, f4, f5, f6, f7, _, _⟩ := F0.all
                                have fz := F0.frozen))
               all_goals
                have CS : HoldsH (stateIn w11 (w4.heap.size) t) (w4.heap.size) t A4 n c4 mm := F0.setState t
                have CO : HoldsH (stateIn w11 (w4.heap.size) t) (w.heap.size + 1) sz none 0 0 0 := (stateIn_oth w11 (w4.heap.size) t _ (by omega)).trans F1
                have CB : Below w.heap.size w (stateIn w11 (w4.heap.size) t) := stateIn_below FB (w4.heap.size) t (by omega)
                have CZ : w7.heap.size ≤ (stateIn w11 (w4.heap.size) t).heap.size := by rw [stateIn_size]; exact Nat.le_trans hsz hb11.size
                have hd2 := (hd.drew.below hb11).more (show wr.heap.size ≤ (stateIn w11 (w4.heap.size) t).heap.size by rw [stateIn_size]; exact hb11.size)
                have hd3 := hd2.keepBlock (w' := stateIn w11 (w4.heap.size) t) (fun b o e hn => stateIn_oth w11 (w4.heap.size) t b (Nat.ne_of_gt (Nat.lt_of_lt_of_le hG7 (addr_block e ▸ hXa))))
                have hX3 : ∀ b o, (some (⟨ab, ao + 128, none⟩ : Addr)) = some ⟨b, o, none⟩ → w7.heap.size ≤ b := fun b o e => addr_block e ▸ hXa
                have hX4 : ∀ b o, (some (⟨ab, ao, none⟩ : Addr)) = some ⟨b, o, none⟩ → w7.heap.size ≤ b := fun b o e => addr_block e ▸ hXa
                have hS3 : SeesIn (stateIn w11 (w4.heap.size) t) _ _ _ _ (fun k => w7.heap.size ≤ k) := ⟨hd3, fun b o e _ => by first | exact hX3 b o e | exact hX4 b o e⟩
                unfold stateIn at CS CO CB CZ hS3
                clear hX3 hX4 hd3 fz f0 f1 f2 f3 f4 f5 f6 f7 F0 F1 FB hb11 BI hd2 k0 k1 k2 k3 k4 k5 k6 k7
                go_wp2
                go_roundw
                case rel => exact ⟨t, b1.drop 128, _, _, _, rfl, by omega, hS3, habs.out, hlef.out, CS, CO, CB, CZ⟩
                case measure => simp [lenV] <;> omega
        exact AllReadyH.nil
      exact AllReadyH.nil
    refine AllReadyH.cons rfl (fun K hK => ?_) ?_
    · simp only [List.getElem_toArray, List.getElem_cons_succ, List.getElem_cons_zero]
      go_simp
      refine hK.out _ _ ?_ (fun hHeld => ?_)
      · (try dsimp only); (first | exact ⟨HoldsH.all (W := World.drew W2) H0, (Below.refl _ W2).drew⟩ | exact ⟨(H0.keep hb6 (by omega)).all, hb6⟩ | (have hb' := Below.trans (‹_ ∧ Below (w.heap.size + 1 + 1) W2 _›).2 (hb4.mono (by omega)); exact ⟨(H0.keep hb' (by omega)).all, hb'⟩) | (have hb' := Below.alloc (‹_ ∧ Below (w.heap.size + 1 + 1) W2 _›).2 (by rw [← HS]; exact (‹_ ∧ Below (w.heap.size + 1 + 1) W2 _›).2.size) (.cells #[] 5); exact ⟨(H0.keep hb' (by omega)).all, hb'⟩) | (have hb' := Below.alloc (‹_ ∧ Below (w.heap.size + 1 + 1) W2 _›).2 (by rw [← HS]; exact (‹_ ∧ Below (w.heap.size + 1 + 1) W2 _›).2.size) (.cells (hcells sz none 0 0 0) 45); exact ⟨(H0.keep hb' (by omega)).all, hb'⟩))
      clear hK K
      try simp only [Act.put, List.getElem_toArray, List.getElem_cons_succ, List.getElem_cons_zero, List.setIfInBounds_toArray, List.set_cons_zero, List.set_cons_succ]
      refine wpAnyH_ready (rs := [7]) (by kernel_rfl) (by simp) ?_
      refine AllReadyH.cons rfl (fun K hK => ?_) ?_
      · skip
        (first | (refine step_append_clone _ rfl (.tmp 13) (.tmp 15) _ rfl 5 i0 _ Tryd.underlying24 hi0 hz0 hz1 hz2 rfl (w.heap.size + 1 + 1 + 1) rfl (own_empty _ _ _ N1.2.1) A n c (r.map bv) rfl ((R1.more (by omega)).more (Nat.le_of_eq N1.2.2.symm)) (bv_one r) (by omega) (Nat.le_trans (Nat.le_succ _) (Nat.le_of_eq N1.2.2.symm)) ?_; intro A4 c4 w4 hS4' hk4 hb4; have hS4 := hS4'.imp (Y := fun b => b = w.heap.size + 1 + 1 + 1 ∨ w.heap.size + 1 + 1 + 1 + 1 ≤ b) (fun b _ hx => hx.imp id (fun h => Nat.le_trans (Nat.le_of_eq N1.2.2.symm) h)); clear hS4') | (refine step_append_clone _ rfl (.tmp 13) (.tmp 15) _ rfl 5 i0 _ Tryd.underlying24 hi0 hz0 hz1 hz2 rfl (w.heap.size + 1 + 1) rfl (own_empty _ _ _ N2.1) A n c (r.map bv) rfl ((R2.more (by omega)).more (Nat.le_of_eq N2.2.2.symm)) (bv_one r) (by omega) (Nat.le_trans (Nat.le_trans (Nat.le_succ _) (Nat.le_succ _)) (Nat.le_of_eq N2.2.2.symm)) ?_; intro A4 c4 w4 hS4' hk4 hb4; have hS4 := hS4'.imp (Y := fun b => b = w.heap.size + 1 + 1 ∨ w.heap.size + 1 + 1 + 1 + 1 ≤ b) (fun b _ hx => hx.imp id (fun h => Nat.le_trans (Nat.le_of_eq N2.2.2.symm) h)); clear hS4') | (refine step_append_clone _ rfl (.tmp 13) (.tmp 15) _ rfl 5 i0 _ Tryd.underlying24 hi0 hz0 hz1 hz2 rfl (w.heap.size + 1 + 1) rfl (own_empty _ _ _ N3) A n c (r.map bv) rfl (R3.more (Nat.le_of_eq Z3.symm)) (bv_one r) (by omega) (Nat.le_trans (Nat.le_succ _) (Nat.le_of_eq Z3.symm)) ?_; intro A4 c4 w4 hS4' hk4 hb4; have hS4 := hS4'.imp (Y := fun b => b = w.heap.size + 1 + 1 ∨ w.heap.size + 1 + 1 + 1 ≤ b) (fun b _ hx => hx.imp id (fun h => Nat.le_trans (Nat.le_of_eq Z3.symm) h)); clear hS4') | (refine step_store_h rfl (.tmp 6) (.tmp 17) rfl (w.heap.size + 1 + 1) s A4 n c4 m rfl rfl sz none 0 0 0 ((hk4 _ (Nat.lt_of_lt_of_eq (by omega) N1.2.2.symm) (by omega)).trans N1.1) Tryd.infoH (w.heap.size + 1 + 1) W2 (‹_ ∧ Below (w.heap.size + 1 + 1) W2 _›).2 (by omega) ?_; intro w6 Hg6 ho6 hs6 hb6; have hG6 : w.heap.size + 1 + 1 ≤ w.heap.size + 1 + 1 := Nat.le_refl _; have hS6 := (hS4.keep (Nat.le_of_eq hs6.symm) (fun b _ hx => ho6 b (by omega))).imp (Y := fun b => w.heap.size + 1 < b ∧ b ≠ w.heap.size + 1 + 1) (fun b _ hx => by omega)) | (refine step_store_h rfl (.tmp 6) (.tmp 17) rfl (w.heap.size + 1 + 1 + 1) s A4 n c4 m rfl rfl sz none 0 0 0 ((hk4 _ (Nat.lt_of_lt_of_eq (by omega) N2.2.2.symm) (by omega)).trans N2.2.1) Tryd.infoH (w.heap.size + 1 + 1) W2 (‹_ ∧ Below (w.heap.size + 1 + 1) W2 _›).2 (by omega) ?_; intro w6 Hg6 ho6 hs6 hb6; have hG6 : w.heap.size + 1 + 1 ≤ w.heap.size + 1 + 1 + 1 := Nat.le_succ _; have hS6 := (hS4.keep (Nat.le_of_eq hs6.symm) (fun b _ hx => ho6 b (by omega))).imp (Y := fun b => w.heap.size + 1 < b ∧ b ≠ w.heap.size + 1 + 1 + 1) (fun b _ hx => by omega)) | (refine step_store_h rfl (.tmp 6) (.tmp 17) rfl w4.heap.size s A4 n c4 m rfl rfl sz none 0 0 0 (heap_alloc_new w4 _) Tryd.infoH (w.heap.size + 1 + 1) W2 (‹_ ∧ Below (w.heap.size + 1 + 1) W2 _›).2 (Nat.le_trans (Nat.le_succ _) (Nat.le_trans (Nat.le_of_eq Z3.symm) hb4.size)) ?_; intro w6 Hg6 ho6 hs6 hb6; have hG6 : w.heap.size + 1 + 1 ≤ w4.heap.size := Nat.le_trans (Nat.le_succ _) (Nat.le_trans (Nat.le_of_eq Z3.symm) hb4.size); have hS6 := ((hS4.imp (Y := fun b => w.heap.size + 1 < b ∧ b ≠ w4.heap.size) (fun b hb hx => ⟨by omega, by omega⟩)).keep (Nat.le_trans (Nat.le_succ _) (Nat.le_of_eq ((World.size_alloc ..).symm.trans hs6.symm))) (fun b hb hx => (ho6 b hx.2).trans ((heap_alloc_other w4 _ hb))))))
        refine hK.out _ _ ?_ (fun hHeld => ?_)
        · (try dsimp only); (first | exact ⟨HoldsH.all (W := World.drew W2) H0, (Below.refl _ W2).drew⟩ | exact ⟨(H0.keep hb6 (by omega)).all, hb6⟩ | (have hb' := Below.trans (‹_ ∧ Below (w.heap.size + 1 + 1) W2 _›).2 (hb4.mono (by omega)); exact ⟨(H0.keep hb' (by omega)).all, hb'⟩) | (have hb' := Below.alloc (‹_ ∧ Below (w.heap.size + 1 + 1) W2 _›).2 (by rw [← HS]; exact (‹_ ∧ Below (w.heap.size + 1 + 1) W2 _›).2.size) (.cells #[] 5); exact ⟨(H0.keep hb' (by omega)).all, hb'⟩) | (have hb' := Below.alloc (‹_ ∧ Below (w.heap.size + 1 + 1) W2 _›).2 (by rw [← HS]; exact (‹_ ∧ Below (w.heap.size + 1 + 1) W2 _›).2.size) (.cells (hcells sz none 0 0 0) 45); exact ⟨(H0.keep hb' (by omega)).all, hb'⟩))
        clear hK K
        try simp only [Act.put, List.getElem_toArray, List.getElem_cons_succ, List.getElem_cons_zero, List.setIfInBounds_toArray, List.set_cons_zero, List.set_cons_succ]
        refine wpAnyH_take (i := 8) (v := ?_) rfl (by kernel_rfl) (by kernel_rfl) (by kernel_rfl) (fun _ _ _ h => h) (Or.inl ⟨by rfl, ?_⟩) (by assumption) ?_
        rotate_left
        · intro w hSw; (try dsimp only at hSw); go_simp <;> with_reducible rfl
        try simp only [Act.put, List.getElem_toArray, List.getElem_cons_succ, List.getElem_cons_zero, List.setIfInBounds_toArray, List.set_cons_zero, List.set_cons_succ]
        refine wpAnyH_ready (rs := [10]) (by kernel_rfl) (by simp) ?_
        refine AllReadyH.cons rfl (fun K hK => ?_) ?_
        · skip
          (first | (refine step_append_clone _ rfl (.tmp 13) (.tmp 15) _ rfl 5 i0 _ Tryd.underlying24 hi0 hz0 hz1 hz2 rfl (w.heap.size + 1 + 1 + 1) rfl (own_empty _ _ _ N1.2.1) A n c (r.map bv) rfl ((R1.more (by omega)).more (Nat.le_of_eq N1.2.2.symm)) (bv_one r) (by omega) (Nat.le_trans (Nat.le_succ _) (Nat.le_of_eq N1.2.2.symm)) ?_; intro A4 c4 w4 hS4' hk4 hb4; have hS4 := hS4'.imp (Y := fun b => b = w.heap.size + 1 + 1 + 1 ∨ w.heap.size + 1 + 1 + 1 + 1 ≤ b) (fun b _ hx => hx.imp id (fun h => Nat.le_trans (Nat.le_of_eq N1.2.2.symm) h)); clear hS4') | (refine step_append_clone _ rfl (.tmp 13) (.tmp 15) _ rfl 5 i0 _ Tryd.underlying24 hi0 hz0 hz1 hz2 rfl (w.heap.size + 1 + 1) rfl (own_empty _ _ _ N2.1) A n c (r.map bv) rfl ((R2.more (by omega)).more (Nat.le_of_eq N2.2.2.symm)) (bv_one r) (by omega) (Nat.le_trans (Nat.le_trans (Nat.le_succ _) (Nat.le_succ _)) (Nat.le_of_eq N2.2.2.symm)) ?_; intro A4 c4 w4 hS4' hk4 hb4; have hS4 := hS4'.imp (Y := fun b => b = w.heap.size + 1 + 1 ∨ w.heap.size + 1 + 1 + 1 + 1 ≤ b) (fun b _ hx => hx.imp id (fun h => Nat.le_trans (Nat.le_of_eq N2.2.2.symm) h)); clear hS4') | (refine step_append_clone _ rfl (.tmp 13) (.tmp 15) _ rfl 5 i0 _ Tryd.underlying24 hi0 hz0 hz1 hz2 rfl (w.heap.size + 1 + 1) rfl (own_empty _ _ _ N3) A n c (r.map bv) rfl (R3.more (Nat.le_of_eq Z3.symm)) (bv_one r) (by omega) (Nat.le_trans (Nat.le_succ _) (Nat.le_of_eq Z3.symm)) ?_; intro A4 c4 w4 hS4' hk4 hb4; have hS4 := hS4'.imp (Y := fun b => b = w.heap.size + 1 + 1 ∨ w.heap.size + 1 + 1 + 1 ≤ b) (fun b _ hx => hx.imp id (fun h => Nat.le_trans (Nat.le_of_eq Z3.symm) h)); clear hS4') | (refine step_store_h rfl (.tmp 6) (.tmp 17) rfl (w.heap.size + 1 + 1) s A4 n c4 m rfl rfl sz none 0 0 0 ((hk4 _ (Nat.lt_of_lt_of_eq (by omega) N1.2.2.symm) (by omega)).trans N1.1) Tryd.infoH (w.heap.size + 1 + 1) W2 (‹_ ∧ Below (w.heap.size + 1 + 1) W2 _›).2 (by omega) ?_; intro w6 Hg6 ho6 hs6 hb6; have hG6 : w.heap.size + 1 + 1 ≤ w.heap.size + 1 + 1 := Nat.le_refl _; have hS6 := (hS4.keep (Nat.le_of_eq hs6.symm) (fun b _ hx => ho6 b (by omega))).imp (Y := fun b => w.heap.size + 1 < b ∧ b ≠ w.heap.size + 1 + 1) (fun b _ hx => by omega)) | (refine step_store_h rfl (.tmp 6) (.tmp 17) rfl (w.heap.size + 1 + 1 + 1) s A4 n c4 m rfl rfl sz none 0 0 0 ((hk4 _ (Nat.lt_of_lt_of_eq (by omega) N2.2.2.symm) (by omega)).trans N2.2.1) Tryd.infoH (w.heap.size + 1 + 1) W2 (‹_ ∧ Below (w.heap.size + 1 + 1) W2 _›).2 (by omega) ?_; intro w6 Hg6 ho6 hs6 hb6; have hG6 : w.heap.size + 1 + 1 ≤ w.heap.size + 1 + 1 + 1 := Nat.le_succ _; have hS6 := (hS4.keep (Nat.le_of_eq hs6.symm) (fun b _ hx => ho6 b (by omega))).imp (Y := fun b => w.heap.size + 1 < b ∧ b ≠ w.heap.size + 1 + 1 + 1) (fun b _ hx => by omega)) | (refine step_store_h rfl (.tmp 6) (.tmp 17) rfl w4.heap.size s A4 n c4 m rfl rfl sz none 0 0 0 (heap_alloc_new w4 _) Tryd.infoH (w.heap.size + 1 + 1) W2 (‹_ ∧ Below (w.heap.size + 1 + 1) W2 _›).2 (Nat.le_trans (Nat.le_succ _) (Nat.le_trans (Nat.le_of_eq Z3.symm) hb4.size)) ?_; intro w6 Hg6 ho6 hs6 hb6; have hG6 : w.heap.size + 1 + 1 ≤ w4.heap.size := Nat.le_trans (Nat.le_succ _) (Nat.le_trans (Nat.le_of_eq Z3.symm) hb4.size); have hS6 := ((hS4.imp (Y := fun b => w.heap.size + 1 < b ∧ b ≠ w4.heap.size) (fun b hb hx => ⟨by omega, by omega⟩)).keep (Nat.le_trans (Nat.le_succ _) (Nat.le_of_eq ((World.size_alloc ..).symm.trans hs6.symm))) (fun b hb hx => (ho6 b hx.2).trans ((heap_alloc_other w4 _ hb))))))
          refine hK.out _ _ ?_ (fun hHeld => ?_)
          · (try dsimp only); (first | exact ⟨HoldsH.all (W := World.drew W2) H0, (Below.refl _ W2).drew⟩ | exact ⟨(H0.keep hb6 (by omega)).all, hb6⟩ | (have hb' := Below.trans (‹_ ∧ Below (w.heap.size + 1 + 1) W2 _›).2 (hb4.mono (by omega)); exact ⟨(H0.keep hb' (by omega)).all, hb'⟩) | (have hb' := Below.alloc (‹_ ∧ Below (w.heap.size + 1 + 1) W2 _›).2 (by rw [← HS]; exact (‹_ ∧ Below (w.heap.size + 1 + 1) W2 _›).2.size) (.cells #[] 5); exact ⟨(H0.keep hb' (by omega)).all, hb'⟩) | (have hb' := Below.alloc (‹_ ∧ Below (w.heap.size + 1 + 1) W2 _›).2 (by rw [← HS]; exact (‹_ ∧ Below (w.heap.size + 1 + 1) W2 _›).2.size) (.cells (hcells sz none 0 0 0) 45); exact ⟨(H0.keep hb' (by omega)).all, hb'⟩))
          clear hK K
          try simp only [Act.put, List.getElem_toArray, List.getElem_cons_succ, List.getElem_cons_zero, List.setIfInBounds_toArray, List.set_cons_zero, List.set_cons_succ]
          refine wpAnyH_done (by kernel_rfl) ?_ _
          refine NoPanic.normal ?_
          have H1' := H1.keep hb6 (by omega)
          have H0' := H0.keep hb6 (by omega)
          have HB' := HB.trans (hb6.mono (by omega))
          clear H0 H1 HB hr2 N1 N2 N3 Z3 R1 R2 R3 hS6 hS4 hk4 hb4 ho6 hs6 hb6
          go_wp2_with (first
            | (with_reducible refine wpList_load_h rfl (.tmp 2) rfl w.heap.size rfl s A n c m H0' Tryd.underlying45 Tryd.infoH ?_)
            | (go_at_call 42
               refine (HM.out _).mono ?_
               rintro e w7 ⟨rfl, hb7⟩
               have Hg7 := Hg6.keep hb7 Hg6.lt
               have H1'' := H1'.keep hb7 H1'.lt
               have H0'' := H0'.keep hb7 H0'.lt
               have HB'' := HB'.trans (hb7.mono HB'.size)
               obtain ⟨_, _, _, _, _, _, _, _, k8, k9⟩ := H0''.all
               obtain ⟨_, _, _, _, _, _, _, _, _, j9⟩ := Hg7.all
               have f9 := Hg7.frozen 9
               have Hgm := Hg7.setMany mm
               have H1m := H1''.setOther ⟨(w.heap.size + 1 + 1 + 1), 9, none⟩ (.int .u64 (mm : Int)) (show w.heap.size + 1 ≠ (w.heap.size + 1 + 1 + 1) by omega)
               have HBm := HB''.setCell (p := ⟨(w.heap.size + 1 + 1 + 1), 9, none⟩) (show w.heap.size ≤ (w.heap.size + 1 + 1 + 1) by omega) (.int .u64 (mm : Int))
               have hszm : (w7.setCell ⟨(w.heap.size + 1 + 1 + 1), 9, none⟩ (.int .u64 (mm : Int))).heap.size = w7.heap.size := World.size_setCell ..
               have k8m : (w7.setCell ⟨(w.heap.size + 1 + 1 + 1), 9, none⟩ (.int .u64 (mm : Int))).cell? ⟨w.heap.size, 8, none⟩ = some (.slice A n c) := by rw [World.cell?_setCell_other _ _ _ _ (by intro e; injection e with e1 _ _; omega)]; exact k8
               have k8a : ∀ o, ((w7.setCell ⟨(w.heap.size + 1 + 1 + 1), 9, none⟩ (.int .u64 (mm : Int))).alloc o).cell? ⟨w.heap.size, 8, none⟩ = some (.slice A n c) := fun o => by rw [World.cell?_alloc_lt _ _ _ (show w.heap.size < _ by rw [hszm]; have := Hg7.lt; omega)]; exact k8m
               have hlt7 := Hg7.lt
               have hgsz : (w.heap.size + 1 + 1 + 1) < w7.heap.size := Hg7.lt
               clear hb7 H0'' Hg7 H1'' HB'')
            | (with_reducible refine wpList_append_sees _ rfl (.tmp 30) (.tmp 32) _ rfl w7.heap.size 5 i0 _ 1 Tryd.underlying24 hi0 hz0 hz1 hz2 rfl (.slice (some ⟨w7.heap.size, 0, none⟩) 0 0) 0 [] rfl (own_empty _ _ _ (by rw [← hszm]; exact heap_alloc_new _ _)) B A n c (r.map bv) rfl ((h.upTo HBm hB).alloc (by rw [hszm]; omega) _) (bv_one _) (by simp only [maxLen]; omega) (by omega) (by rw [World.size_alloc, hszm]; omega) w7.heap.size (w7.setCell ⟨(w.heap.size + 1 + 1 + 1), 9, none⟩ (.int .u64 (mm : Int))) ((Below.refl _ _).alloc (by rw [hszm]; exact Nat.le_refl _) _) (Nat.le_refl _) ?_; intro A5 c5 w8 hown8 hb8; simp only [Nat.zero_add, List.nil_append] at hown8; (try simp only [Nat.zero_add]))
            | (with_reducible refine wpList_append_sees _ rfl (.tmp 33) (.tmp 34) _ rfl w7.heap.size 5 i0 _ 1 Tryd.underlying24 hi0 hz0 hz1 hz2 rfl (.slice A5 n c5) n _ rfl hown8 B A2 n2 c2 (b.map bv) rfl ((h2.upTo HBm hB).upTo hb8 (by omega)) (bv_one _) (by simp only [maxLen]; omega) (by omega) (by have := hb8.size; rw [hszm] at this; exact this) w7.heap.size (w7.setCell ⟨(w.heap.size + 1 + 1 + 1), 9, none⟩ (.int .u64 (mm : Int))) hb8 (Nat.le_refl _) ?_; intro A6 c6 w9 hown9 hb9))
          have hA := seesIn_of_own hown9
          rw [← List.map_append] at hA
          have Hg9 := Hgm.keep hb9 hgsz
          have H19 := H1m.keep hb9 (show w.heap.size + 1 < w7.heap.size by omega)
          have HB9 := HBm.trans (hb9.mono (by omega))
          have hsz9 := hb9.size
          rw [hszm] at hsz9
          have hG7 : (w.heap.size + 1 + 1 + 1) < w7.heap.size := hgsz
          clear hown8 hb8 hown9 hb9 Hgm H1m HBm k8 k9 j9 f9 k8m k8a hszm
          go_loopw [8] (fun v wr => ∃ (s1 : St) (b1 : List UInt8) (A1 : Option Addr) (n1 c1 : Nat), v = .slice A1 n1 c1 ∧ n1 ≤ 2000000 ∧ SeesIn wr A1 n1 c1 (b1.map bv) (fun k => w7.heap.size ≤ k) ∧ absorb s1 b1 = absorb s (r ++ b) ∧ left b1 = left (r ++ b) ∧ HoldsH wr (w.heap.size + 1 + 1 + 1) s1 A4 n c4 mm ∧ HoldsH wr (w.heap.size + 1) sz none 0 0 0 ∧ Below w.heap.size w wr ∧ w7.heap.size ≤ wr.heap.size)
            (fun v _ => lenV v)
          case atStart => exact ⟨s, r ++ b, A6, n + n2, c6, rfl, by omega, hA, rfl, rfl, Hg9, H19, HB9, hsz9⟩
          case round =>
            clear hA Hg9 H19 HB9 hsz9
            obtain ⟨s1, b1, A1, n1, c1, rfl, hn1, hs1, ha, hl, H0, H1, HB, hsz⟩ := hrel
            have hlen : b1.length = n1 := by have := hs1.1.len; simpa using this
            by_cases hlt : n1 < 128
            · have hlt2 : ¬ (128 : Int) ≤ n1 := by omega
              have ha2 := Lib.hid (show absorb s (r ++ b) = s1 by rw [← ha]; exact absorb_short s1 (by omega))
              have hl2 := Lib.hid (show left (r ++ b) = b1 by rw [← hl]; exact left_short (by omega))
              obtain rfl : N' = n1 := by rw [← hNl.out, hl2.out, hlen]
              have hs11 : Sees wr wr.heap.size A1 N' c1 (b1.map bv) := hs1.1
              clear hlen ha hl
              go_wp2_with (first
                | (with_reducible refine wpList_append_clone _ rfl (.tmp 47) (.tmp 48) _ rfl 5 i0 _ Tryd.underlying24 hi0 hz0 hz1 hz2 rfl wr.heap.size rfl (own_empty _ _ _ (heap_alloc_new wr _)) A1 N' c1 (b1.map bv) rfl ((hs11.alloc (Nat.le_refl _) _).more (by rw [World.size_alloc]; omega)) (bv_one _) (by omega) (by rw [World.size_alloc]; omega) ?_
                   intro A7 c7 w10 hS10 hk10 hb10
                   have Hga := (H0.alloc (.cells #[] 5)).keep hb10 H0.lt
                   have H1a := (H1.alloc (.cells #[] 5)).keep hb10 H1.lt
                   have HBa := (HB.alloc HB.size (.cells #[] 5)).trans (hb10.mono HB.size)
                   have hS11 : SeesIn w10 A7 N' c7 (b1.map bv) (fun b => wr.heap.size ≤ b) := hS10.imp (fun b _ hx => by rcases hx with hx | hx; exact Nat.le_of_eq hx.symm; rw [World.size_alloc] at hx; omega)
                   obtain ⟨_, _, _, _, _, _, _, _, k8, _⟩ := Hga.all
                   have f8 := Hga.frozen 8
                   have L := Hga.setRest A7 N' c7
                   have Z := H1a.setOther ⟨(w.heap.size + 1 + 1 + 1), 8, none⟩ (.slice A7 N' c7) (show w.heap.size + 1 ≠ (w.heap.size + 1 + 1 + 1) by omega)
                   have HB2 := HBa.setCell (p := ⟨(w.heap.size + 1 + 1 + 1), 8, none⟩) (show w.heap.size ≤ (w.heap.size + 1 + 1 + 1) by omega) (.slice A7 N' c7)
                   have hz1' := H1.lt
                   clear hb10 hk10 hS10)
                | (with_reducible refine wpList_load_h rfl (.tmp 6) rfl (w.heap.size + 1 + 1 + 1) rfl s1 A7 N' c7 mm L Tryd.underlying45 Tryd.infoH ?_)
                | (with_reducible refine wpList_store_h rfl (.tmp 4) (.tmp 51) rfl (w.heap.size + 1) s1 A7 N' c7 mm rfl rfl sz none 0 0 0 Z Tryd.infoH w.heap.size w HB2 (by omega) ?_; intro w12 Hg ho hsz2 hb12))
              exact bodyPost_ret (results_cell_tmp rfl _ _ (w.heap.size + 1) _ _ _ _ rfl Hg Tryd.underlying45 rfl (by rw [Tryd.infoH]; rfl)) rfl
                ⟨A7, c7, by rw [ha2.out]; rfl, by rw [hl2.out]; exact (hS11.keep (by rw [hsz2, World.size_setCell]; exact Nat.le_refl _) (fun b _ hx => (ho b (by omega)).trans (heap_setCell_other w10 _ b _ (show b ≠ (w.heap.size + 1 + 1 + 1) by omega)))).1, hb12⟩
            · have hge : (128 : Int) ≤ n1 := by omega
              have hle1 := hs1.1.le
              obtain ⟨k0, k1, k2, k3, k4, k5, k6, k7, _, _⟩ := H0.all
              have ht := hs1.take (k := 128) (by omega)
              rw [← List.map_take] at ht
              have hd := hs1.1.drop (k := 128) (by omega)
              obtain ⟨ab, ao, _, rfl, _, _, _⟩ := hs1.1.cell (k := 0) (by omega)
              have hXa := hs1.2 ab ao rfl (by omega)
              rw [← List.map_drop] at hd
              have habs := Lib.hid ((absorb_long s1 (l := b1) (by omega)).symm.trans ha)
              have hlef := Lib.hid ((left_long (l := b1) (by omega)).symm.trans hl)
              have hbt := Lib.hid (blk_take s1 b1)
              have hc1 : 128 ≤ c1 := by omega
              clear hlen ha hl
              rcases Nat.lt_or_eq_of_le hc1 with hc64 | hc64
              all_goals
               first | (subst hc64; obtain rfl : n1 = 128 := by omega) | skip
               first | rw [if_pos rfl] at hd | (rw [if_neg (by omega)] at hd; simp only [Option.map_some, Addr.add_mid] at hd)
               go_wp2
               go_region_with ((go_at_call 43
                                have BI := block_any _ _ _ _ (b1.take 128) s1 wr.drew ht.1.drew (Nat.le_refl _) (Nat.le_refl _) (by omega)
                                rw [hbt.out] at BI
                                generalize blk s1 b1 = t at *
                                rw [sv_eq s1, sv_eq t] at BI
                                (with_reducible refine BI.mono ?_)
                                rintro e w11 ⟨rfl, hb11⟩
                                have F0 := HoldsH.keep (W := wr.drew) H0 hb11 H0.lt
                                have F1 := HoldsH.keep (W := wr.drew) H1 hb11 H1.lt
                                have FB := HB.drew.trans (hb11.mono HB.size)
                                obtain ⟨f0, f1, f2, f3, f4, f5, f6, f7, _, _⟩ := F0.all
                                have fz := F0.frozen))
               all_goals
                have CS : HoldsH (stateIn w11 (w.heap.size + 1 + 1 + 1) t) (w.heap.size + 1 + 1 + 1) t A4 n c4 mm := F0.setState t
                have CO : HoldsH (stateIn w11 (w.heap.size + 1 + 1 + 1) t) (w.heap.size + 1) sz none 0 0 0 := (stateIn_oth w11 (w.heap.size + 1 + 1 + 1) t _ (by omega)).trans F1
                have CB : Below w.heap.size w (stateIn w11 (w.heap.size + 1 + 1 + 1) t) := stateIn_below FB (w.heap.size + 1 + 1 + 1) t (by omega)
                have CZ : w7.heap.size ≤ (stateIn w11 (w.heap.size + 1 + 1 + 1) t).heap.size := by rw [stateIn_size]; exact Nat.le_trans hsz hb11.size
                have hd2 := (hd.drew.below hb11).more (show wr.heap.size ≤ (stateIn w11 (w.heap.size + 1 + 1 + 1) t).heap.size by rw [stateIn_size]; exact hb11.size)
                have hd3 := hd2.keepBlock (w' := stateIn w11 (w.heap.size + 1 + 1 + 1) t) (fun b o e hn => stateIn_oth w11 (w.heap.size + 1 + 1 + 1) t b (Nat.ne_of_gt (Nat.lt_of_lt_of_le hG7 (addr_block e ▸ hXa))))
                have hX3 : ∀ b o, (some (⟨ab, ao + 128, none⟩ : Addr)) = some ⟨b, o, none⟩ → w7.heap.size ≤ b := fun b o e => addr_block e ▸ hXa
                have hX4 : ∀ b o, (some (⟨ab, ao, none⟩ : Addr)) = some ⟨b, o, none⟩ → w7.heap.size ≤ b := fun b o e => addr_block e ▸ hXa
                have hS3 : SeesIn (stateIn w11 (w.heap.size + 1 + 1 + 1) t) _ _ _ _ (fun k => w7.heap.size ≤ k) := ⟨hd3, fun b o e _ => by first | exact hX3 b o e | exact hX4 b o e⟩
                unfold stateIn at CS CO CB CZ hS3
                clear hX3 hX4 hd3 fz f0 f1 f2 f3 f4 f5 f6 f7 F0 F1 FB hb11 BI hd2 k0 k1 k2 k3 k4 k5 k6 k7
                go_wp2
                go_roundw
                case rel => exact ⟨t, b1.drop 128, _, _, _, rfl, by omega, hS3, habs.out, hlef.out, CS, CO, CB, CZ⟩
                case measure => simp [lenV] <;> omega
        exact AllReadyH.nil
      exact AllReadyH.nil
    exact AllReadyH.nil
  refine AllReadyH.cons rfl (fun K hK => ?_) ?_
  · simp only [List.getElem_toArray, List.getElem_cons_succ, List.getElem_cons_zero]
    go_simp
    refine hK.out _ _ ?_ (fun hHeld => ?_)
    · (try dsimp only); (first | exact ⟨HoldsH.all (W := World.drew W2) H0, (Below.refl _ W2).drew⟩ | exact ⟨(H0.keep hb6 (by omega)).all, hb6⟩ | (have hb' := Below.trans (‹_ ∧ Below (w.heap.size + 1 + 1) W2 _›).2 (hb4.mono (by omega)); exact ⟨(H0.keep hb' (by omega)).all, hb'⟩) | (have hb' := Below.alloc (‹_ ∧ Below (w.heap.size + 1 + 1) W2 _›).2 (by rw [← HS]; exact (‹_ ∧ Below (w.heap.size + 1 + 1) W2 _›).2.size) (.cells #[] 5); exact ⟨(H0.keep hb' (by omega)).all, hb'⟩) | (have hb' := Below.alloc (‹_ ∧ Below (w.heap.size + 1 + 1) W2 _›).2 (by rw [← HS]; exact (‹_ ∧ Below (w.heap.size + 1 + 1) W2 _›).2.size) (.cells (hcells sz none 0 0 0) 45); exact ⟨(H0.keep hb' (by omega)).all, hb'⟩))
    clear hK K
    try simp only [Act.put, List.getElem_toArray, List.getElem_cons_succ, List.getElem_cons_zero, List.setIfInBounds_toArray, List.set_cons_zero, List.set_cons_succ]
    refine wpAnyH_ready (rs := [4]) (by kernel_rfl) (by simp) ?_
    refine AllReadyH.cons rfl (fun K hK => ?_) ?_
    · simp only [List.getElem_toArray, List.getElem_cons_succ, List.getElem_cons_zero]
      go_simp
      refine hK.out _ _ ?_ (fun hHeld => ?_)
      · (try dsimp only); (first | exact ⟨HoldsH.all (W := World.drew W2) H0, (Below.refl _ W2).drew⟩ | exact ⟨(H0.keep hb6 (by omega)).all, hb6⟩ | (have hb' := Below.trans (‹_ ∧ Below (w.heap.size + 1 + 1) W2 _›).2 (hb4.mono (by omega)); exact ⟨(H0.keep hb' (by omega)).all, hb'⟩) | (have hb' := Below.alloc (‹_ ∧ Below (w.heap.size + 1 + 1) W2 _›).2 (by rw [← HS]; exact (‹_ ∧ Below (w.heap.size + 1 + 1) W2 _›).2.size) (.cells #[] 5); exact ⟨(H0.keep hb' (by omega)).all, hb'⟩) | (have hb' := Below.alloc (‹_ ∧ Below (w.heap.size + 1 + 1) W2 _›).2 (by rw [← HS]; exact (‹_ ∧ Below (w.heap.size + 1 + 1) W2 _›).2.size) (.cells (hcells sz none 0 0 0) 45); exact ⟨(H0.keep hb' (by omega)).all, hb'⟩))
      clear hK K
      try simp only [Act.put, List.getElem_toArray, List.getElem_cons_succ, List.getElem_cons_zero, List.setIfInBounds_toArray, List.set_cons_zero, List.set_cons_succ]
      refine wpAnyH_ready (rs := [7]) (by kernel_rfl) (by simp) ?_
      refine AllReadyH.cons rfl (fun K hK => ?_) ?_
      · skip
        (first | (refine step_append_clone _ rfl (.tmp 13) (.tmp 15) _ rfl 5 i0 _ Tryd.underlying24 hi0 hz0 hz1 hz2 rfl (w.heap.size + 1 + 1 + 1) rfl (own_empty _ _ _ N1.2.1) A n c (r.map bv) rfl ((R1.more (by omega)).more (Nat.le_of_eq N1.2.2.symm)) (bv_one r) (by omega) (Nat.le_trans (Nat.le_succ _) (Nat.le_of_eq N1.2.2.symm)) ?_; intro A4 c4 w4 hS4' hk4 hb4; have hS4 := hS4'.imp (Y := fun b => b = w.heap.size + 1 + 1 + 1 ∨ w.heap.size + 1 + 1 + 1 + 1 ≤ b) (fun b _ hx => hx.imp id (fun h => Nat.le_trans (Nat.le_of_eq N1.2.2.symm) h)); clear hS4') | (refine step_append_clone _ rfl (.tmp 13) (.tmp 15) _ rfl 5 i0 _ Tryd.underlying24 hi0 hz0 hz1 hz2 rfl (w.heap.size + 1 + 1) rfl (own_empty _ _ _ N2.1) A n c (r.map bv) rfl ((R2.more (by omega)).more (Nat.le_of_eq N2.2.2.symm)) (bv_one r) (by omega) (Nat.le_trans (Nat.le_trans (Nat.le_succ _) (Nat.le_succ _)) (Nat.le_of_eq N2.2.2.symm)) ?_; intro A4 c4 w4 hS4' hk4 hb4; have hS4 := hS4'.imp (Y := fun b => b = w.heap.size + 1 + 1 ∨ w.heap.size + 1 + 1 + 1 + 1 ≤ b) (fun b _ hx => hx.imp id (fun h => Nat.le_trans (Nat.le_of_eq N2.2.2.symm) h)); clear hS4') | (refine step_append_clone _ rfl (.tmp 13) (.tmp 15) _ rfl 5 i0 _ Tryd.underlying24 hi0 hz0 hz1 hz2 rfl (w.heap.size + 1 + 1) rfl (own_empty _ _ _ N3) A n c (r.map bv) rfl (R3.more (Nat.le_of_eq Z3.symm)) (bv_one r) (by omega) (Nat.le_trans (Nat.le_succ _) (Nat.le_of_eq Z3.symm)) ?_; intro A4 c4 w4 hS4' hk4 hb4; have hS4 := hS4'.imp (Y := fun b => b = w.heap.size + 1 + 1 ∨ w.heap.size + 1 + 1 + 1 ≤ b) (fun b _ hx => hx.imp id (fun h => Nat.le_trans (Nat.le_of_eq Z3.symm) h)); clear hS4') | (refine step_store_h rfl (.tmp 6) (.tmp 17) rfl (w.heap.size + 1 + 1) s A4 n c4 m rfl rfl sz none 0 0 0 ((hk4 _ (Nat.lt_of_lt_of_eq (by omega) N1.2.2.symm) (by omega)).trans N1.1) Tryd.infoH (w.heap.size + 1 + 1) W2 (‹_ ∧ Below (w.heap.size + 1 + 1) W2 _›).2 (by omega) ?_; intro w6 Hg6 ho6 hs6 hb6; have hG6 : w.heap.size + 1 + 1 ≤ w.heap.size + 1 + 1 := Nat.le_refl _; have hS6 := (hS4.keep (Nat.le_of_eq hs6.symm) (fun b _ hx => ho6 b (by omega))).imp (Y := fun b => w.heap.size + 1 < b ∧ b ≠ w.heap.size + 1 + 1) (fun b _ hx => by omega)) | (refine step_store_h rfl (.tmp 6) (.tmp 17) rfl (w.heap.size + 1 + 1 + 1) s A4 n c4 m rfl rfl sz none 0 0 0 ((hk4 _ (Nat.lt_of_lt_of_eq (by omega) N2.2.2.symm) (by omega)).trans N2.2.1) Tryd.infoH (w.heap.size + 1 + 1) W2 (‹_ ∧ Below (w.heap.size + 1 + 1) W2 _›).2 (by omega) ?_; intro w6 Hg6 ho6 hs6 hb6; have hG6 : w.heap.size + 1 + 1 ≤ w.heap.size + 1 + 1 + 1 := Nat.le_succ _; have hS6 := (hS4.keep (Nat.le_of_eq hs6.symm) (fun b _ hx => ho6 b (by omega))).imp (Y := fun b => w.heap.size + 1 < b ∧ b ≠ w.heap.size + 1 + 1 + 1) (fun b _ hx => by omega)) | (refine step_store_h rfl (.tmp 6) (.tmp 17) rfl w4.heap.size s A4 n c4 m rfl rfl sz none 0 0 0 (heap_alloc_new w4 _) Tryd.infoH (w.heap.size + 1 + 1) W2 (‹_ ∧ Below (w.heap.size + 1 + 1) W2 _›).2 (Nat.le_trans (Nat.le_succ _) (Nat.le_trans (Nat.le_of_eq Z3.symm) hb4.size)) ?_; intro w6 Hg6 ho6 hs6 hb6; have hG6 : w.heap.size + 1 + 1 ≤ w4.heap.size := Nat.le_trans (Nat.le_succ _) (Nat.le_trans (Nat.le_of_eq Z3.symm) hb4.size); have hS6 := ((hS4.imp (Y := fun b => w.heap.size + 1 < b ∧ b ≠ w4.heap.size) (fun b hb hx => ⟨by omega, by omega⟩)).keep (Nat.le_trans (Nat.le_succ _) (Nat.le_of_eq ((World.size_alloc ..).symm.trans hs6.symm))) (fun b hb hx => (ho6 b hx.2).trans ((heap_alloc_other w4 _ hb))))))
        refine hK.out _ _ ?_ (fun hHeld => ?_)
        · (try dsimp only); (first | exact ⟨HoldsH.all (W := World.drew W2) H0, (Below.refl _ W2).drew⟩ | exact ⟨(H0.keep hb6 (by omega)).all, hb6⟩ | (have hb' := Below.trans (‹_ ∧ Below (w.heap.size + 1 + 1) W2 _›).2 (hb4.mono (by omega)); exact ⟨(H0.keep hb' (by omega)).all, hb'⟩) | (have hb' := Below.alloc (‹_ ∧ Below (w.heap.size + 1 + 1) W2 _›).2 (by rw [← HS]; exact (‹_ ∧ Below (w.heap.size + 1 + 1) W2 _›).2.size) (.cells #[] 5); exact ⟨(H0.keep hb' (by omega)).all, hb'⟩) | (have hb' := Below.alloc (‹_ ∧ Below (w.heap.size + 1 + 1) W2 _›).2 (by rw [← HS]; exact (‹_ ∧ Below (w.heap.size + 1 + 1) W2 _›).2.size) (.cells (hcells sz none 0 0 0) 45); exact ⟨(H0.keep hb' (by omega)).all, hb'⟩))
        clear hK K
        try simp only [Act.put, List.getElem_toArray, List.getElem_cons_succ, List.getElem_cons_zero, List.setIfInBounds_toArray, List.set_cons_zero, List.set_cons_succ]
        refine wpAnyH_take (i := 8) (v := ?_) rfl (by kernel_rfl) (by kernel_rfl) (by kernel_rfl) (fun _ _ _ h => h) (Or.inl ⟨by rfl, ?_⟩) (by assumption) ?_
        rotate_left
        · intro w hSw; (try dsimp only at hSw); go_simp <;> with_reducible rfl
        try simp only [Act.put, List.getElem_toArray, List.getElem_cons_succ, List.getElem_cons_zero, List.setIfInBounds_toArray, List.set_cons_zero, List.set_cons_succ]
        refine wpAnyH_ready (rs := [10]) (by kernel_rfl) (by simp) ?_
        refine AllReadyH.cons rfl (fun K hK => ?_) ?_
        · skip
          (first | (refine step_append_clone _ rfl (.tmp 13) (.tmp 15) _ rfl 5 i0 _ Tryd.underlying24 hi0 hz0 hz1 hz2 rfl (w.heap.size + 1 + 1 + 1) rfl (own_empty _ _ _ N1.2.1) A n c (r.map bv) rfl ((R1.more (by omega)).more (Nat.le_of_eq N1.2.2.symm)) (bv_one r) (by omega) (Nat.le_trans (Nat.le_succ _) (Nat.le_of_eq N1.2.2.symm)) ?_; intro A4 c4 w4 hS4' hk4 hb4; have hS4 := hS4'.imp (Y := fun b => b = w.heap.size + 1 + 1 + 1 ∨ w.heap.size + 1 + 1 + 1 + 1 ≤ b) (fun b _ hx => hx.imp id (fun h => Nat.le_trans (Nat.le_of_eq N1.2.2.symm) h)); clear hS4') | (refine step_append_clone _ rfl (.tmp 13) (.tmp 15) _ rfl 5 i0 _ Tryd.underlying24 hi0 hz0 hz1 hz2 rfl (w.heap.size + 1 + 1) rfl (own_empty _ _ _ N2.1) A n c (r.map bv) rfl ((R2.more (by omega)).more (Nat.le_of_eq N2.2.2.symm)) (bv_one r) (by omega) (Nat.le_trans (Nat.le_trans (Nat.le_succ _) (Nat.le_succ _)) (Nat.le_of_eq N2.2.2.symm)) ?_; intro A4 c4 w4 hS4' hk4 hb4; have hS4 := hS4'.imp (Y := fun b => b = w.heap.size + 1 + 1 ∨ w.heap.size + 1 + 1 + 1 + 1 ≤ b) (fun b _ hx => hx.imp id (fun h => Nat.le_trans (Nat.le_of_eq N2.2.2.symm) h)); clear hS4') | (refine step_append_clone _ rfl (.tmp 13) (.tmp 15) _ rfl 5 i0 _ Tryd.underlying24 hi0 hz0 hz1 hz2 rfl (w.heap.size + 1 + 1) rfl (own_empty _ _ _ N3) A n c (r.map bv) rfl (R3.more (Nat.le_of_eq Z3.symm)) (bv_one r) (by omega) (Nat.le_trans (Nat.le_succ _) (Nat.le_of_eq Z3.symm)) ?_; intro A4 c4 w4 hS4' hk4 hb4; have hS4 := hS4'.imp (Y := fun b => b = w.heap.size + 1 + 1 ∨ w.heap.size + 1 + 1 + 1 ≤ b) (fun b _ hx => hx.imp id (fun h => Nat.le_trans (Nat.le_of_eq Z3.symm) h)); clear hS4') | (refine step_store_h rfl (.tmp 6) (.tmp 17) rfl (w.heap.size + 1 + 1) s A4 n c4 m rfl rfl sz none 0 0 0 ((hk4 _ (Nat.lt_of_lt_of_eq (by omega) N1.2.2.symm) (by omega)).trans N1.1) Tryd.infoH (w.heap.size + 1 + 1) W2 (‹_ ∧ Below (w.heap.size + 1 + 1) W2 _›).2 (by omega) ?_; intro w6 Hg6 ho6 hs6 hb6; have hG6 : w.heap.size + 1 + 1 ≤ w.heap.size + 1 + 1 := Nat.le_refl _; have hS6 := (hS4.keep (Nat.le_of_eq hs6.symm) (fun b _ hx => ho6 b (by omega))).imp (Y := fun b => w.heap.size + 1 < b ∧ b ≠ w.heap.size + 1 + 1) (fun b _ hx => by omega)) | (refine step_store_h rfl (.tmp 6) (.tmp 17) rfl (w.heap.size + 1 + 1 + 1) s A4 n c4 m rfl rfl sz none 0 0 0 ((hk4 _ (Nat.lt_of_lt_of_eq (by omega) N2.2.2.symm) (by omega)).trans N2.2.1) Tryd.infoH (w.heap.size + 1 + 1) W2 (‹_ ∧ Below (w.heap.size + 1 + 1) W2 _›).2 (by omega) ?_; intro w6 Hg6 ho6 hs6 hb6; have hG6 : w.heap.size + 1 + 1 ≤ w.heap.size + 1 + 1 + 1 := Nat.le_succ _; have hS6 := (hS4.keep (Nat.le_of_eq hs6.symm) (fun b _ hx => ho6 b (by omega))).imp (Y := fun b => w.heap.size + 1 < b ∧ b ≠ w.heap.size + 1 + 1 + 1) (fun b _ hx => by omega)) | (refine step_store_h rfl (.tmp 6) (.tmp 17) rfl w4.heap.size s A4 n c4 m rfl rfl sz none 0 0 0 (heap_alloc_new w4 _) Tryd.infoH (w.heap.size + 1 + 1) W2 (‹_ ∧ Below (w.heap.size + 1 + 1) W2 _›).2 (Nat.le_trans (Nat.le_succ _) (Nat.le_trans (Nat.le_of_eq Z3.symm) hb4.size)) ?_; intro w6 Hg6 ho6 hs6 hb6; have hG6 : w.heap.size + 1 + 1 ≤ w4.heap.size := Nat.le_trans (Nat.le_succ _) (Nat.le_trans (Nat.le_of_eq Z3.symm) hb4.size); have hS6 := ((hS4.imp (Y := fun b => w.heap.size + 1 < b ∧ b ≠ w4.heap.size) (fun b hb hx => ⟨by omega, by omega⟩)).keep (Nat.le_trans (Nat.le_succ _) (Nat.le_of_eq ((World.size_alloc ..).symm.trans hs6.symm))) (fun b hb hx => (ho6 b hx.2).trans ((heap_alloc_other w4 _ hb))))))
          refine hK.out _ _ ?_ (fun hHeld => ?_)
          · (try dsimp only); (first | exact ⟨HoldsH.all (W := World.drew W2) H0, (Below.refl _ W2).drew⟩ | exact ⟨(H0.keep hb6 (by omega)).all, hb6⟩ | (have hb' := Below.trans (‹_ ∧ Below (w.heap.size + 1 + 1) W2 _›).2 (hb4.mono (by omega)); exact ⟨(H0.keep hb' (by omega)).all, hb'⟩) | (have hb' := Below.alloc (‹_ ∧ Below (w.heap.size + 1 + 1) W2 _›).2 (by rw [← HS]; exact (‹_ ∧ Below (w.heap.size + 1 + 1) W2 _›).2.size) (.cells #[] 5); exact ⟨(H0.keep hb' (by omega)).all, hb'⟩) | (have hb' := Below.alloc (‹_ ∧ Below (w.heap.size + 1 + 1) W2 _›).2 (by rw [← HS]; exact (‹_ ∧ Below (w.heap.size + 1 + 1) W2 _›).2.size) (.cells (hcells sz none 0 0 0) 45); exact ⟨(H0.keep hb' (by omega)).all, hb'⟩))
          clear hK K
          try simp only [Act.put, List.getElem_toArray, List.getElem_cons_succ, List.getElem_cons_zero, List.setIfInBounds_toArray, List.set_cons_zero, List.set_cons_succ]
          refine wpAnyH_done (by kernel_rfl) ?_ _
          refine NoPanic.normal ?_
          have H1' := H1.keep hb6 (by omega)
          have H0' := H0.keep hb6 (by omega)
          have HB' := HB.trans (hb6.mono (by omega))
          clear H0 H1 HB hr2 N1 N2 N3 Z3 R1 R2 R3 hS6 hS4 hk4 hb4 ho6 hs6 hb6
          go_wp2_with (first
            | (with_reducible refine wpList_load_h rfl (.tmp 2) rfl w.heap.size rfl s A n c m H0' Tryd.underlying45 Tryd.infoH ?_)
            | (go_at_call 42
               refine (HM.out _).mono ?_
               rintro e w7 ⟨rfl, hb7⟩
               have Hg7 := Hg6.keep hb7 Hg6.lt
               have H1'' := H1'.keep hb7 H1'.lt
               have H0'' := H0'.keep hb7 H0'.lt
               have HB'' := HB'.trans (hb7.mono HB'.size)
               obtain ⟨_, _, _, _, _, _, _, _, k8, k9⟩ := H0''.all
               obtain ⟨_, _, _, _, _, _, _, _, _, j9⟩ := Hg7.all
               have f9 := Hg7.frozen 9
               have Hgm := Hg7.setMany mm
               have H1m := H1''.setOther ⟨(w.heap.size + 1 + 1), 9, none⟩ (.int .u64 (mm : Int)) (show w.heap.size + 1 ≠ (w.heap.size + 1 + 1) by omega)
               have HBm := HB''.setCell (p := ⟨(w.heap.size + 1 + 1), 9, none⟩) (show w.heap.size ≤ (w.heap.size + 1 + 1) by omega) (.int .u64 (mm : Int))
               have hszm : (w7.setCell ⟨(w.heap.size + 1 + 1), 9, none⟩ (.int .u64 (mm : Int))).heap.size = w7.heap.size := World.size_setCell ..
               have k8m : (w7.setCell ⟨(w.heap.size + 1 + 1), 9, none⟩ (.int .u64 (mm : Int))).cell? ⟨w.heap.size, 8, none⟩ = some (.slice A n c) := by rw [World.cell?_setCell_other _ _ _ _ (by intro e; injection e with e1 _ _; omega)]; exact k8
               have k8a : ∀ o, ((w7.setCell ⟨(w.heap.size + 1 + 1), 9, none⟩ (.int .u64 (mm : Int))).alloc o).cell? ⟨w.heap.size, 8, none⟩ = some (.slice A n c) := fun o => by rw [World.cell?_alloc_lt _ _ _ (show w.heap.size < _ by rw [hszm]; have := Hg7.lt; omega)]; exact k8m
               have hlt7 := Hg7.lt
               have hgsz : (w.heap.size + 1 + 1) < w7.heap.size := Hg7.lt
               clear hb7 H0'' Hg7 H1'' HB'')
            | (with_reducible refine wpList_append_sees _ rfl (.tmp 30) (.tmp 32) _ rfl w7.heap.size 5 i0 _ 1 Tryd.underlying24 hi0 hz0 hz1 hz2 rfl (.slice (some ⟨w7.heap.size, 0, none⟩) 0 0) 0 [] rfl (own_empty _ _ _ (by rw [← hszm]; exact heap_alloc_new _ _)) B A n c (r.map bv) rfl ((h.upTo HBm hB).alloc (by rw [hszm]; omega) _) (bv_one _) (by simp only [maxLen]; omega) (by omega) (by rw [World.size_alloc, hszm]; omega) w7.heap.size (w7.setCell ⟨(w.heap.size + 1 + 1), 9, none⟩ (.int .u64 (mm : Int))) ((Below.refl _ _).alloc (by rw [hszm]; exact Nat.le_refl _) _) (Nat.le_refl _) ?_; intro A5 c5 w8 hown8 hb8; simp only [Nat.zero_add, List.nil_append] at hown8; (try simp only [Nat.zero_add]))
            | (with_reducible refine wpList_append_sees _ rfl (.tmp 33) (.tmp 34) _ rfl w7.heap.size 5 i0 _ 1 Tryd.underlying24 hi0 hz0 hz1 hz2 rfl (.slice A5 n c5) n _ rfl hown8 B A2 n2 c2 (b.map bv) rfl ((h2.upTo HBm hB).upTo hb8 (by omega)) (bv_one _) (by simp only [maxLen]; omega) (by omega) (by have := hb8.size; rw [hszm] at this; exact this) w7.heap.size (w7.setCell ⟨(w.heap.size + 1 + 1), 9, none⟩ (.int .u64 (mm : Int))) hb8 (Nat.le_refl _) ?_; intro A6 c6 w9 hown9 hb9))
          have hA := seesIn_of_own hown9
          rw [← List.map_append] at hA
          have Hg9 := Hgm.keep hb9 hgsz
          have H19 := H1m.keep hb9 (show w.heap.size + 1 < w7.heap.size by omega)
          have HB9 := HBm.trans (hb9.mono (by omega))
          have hsz9 := hb9.size
          rw [hszm] at hsz9
          have hG7 : (w.heap.size + 1 + 1) < w7.heap.size := hgsz
          clear hown8 hb8 hown9 hb9 Hgm H1m HBm k8 k9 j9 f9 k8m k8a hszm
          go_loopw [8] (fun v wr => ∃ (s1 : St) (b1 : List UInt8) (A1 : Option Addr) (n1 c1 : Nat), v = .slice A1 n1 c1 ∧ n1 ≤ 2000000 ∧ SeesIn wr A1 n1 c1 (b1.map bv) (fun k => w7.heap.size ≤ k) ∧ absorb s1 b1 = absorb s (r ++ b) ∧ left b1 = left (r ++ b) ∧ HoldsH wr (w.heap.size + 1 + 1) s1 A4 n c4 mm ∧ HoldsH wr (w.heap.size + 1) sz none 0 0 0 ∧ Below w.heap.size w wr ∧ w7.heap.size ≤ wr.heap.size)
            (fun v _ => lenV v)
          case atStart => exact ⟨s, r ++ b, A6, n + n2, c6, rfl, by omega, hA, rfl, rfl, Hg9, H19, HB9, hsz9⟩
          case round =>
            clear hA Hg9 H19 HB9 hsz9
            obtain ⟨s1, b1, A1, n1, c1, rfl, hn1, hs1, ha, hl, H0, H1, HB, hsz⟩ := hrel
            have hlen : b1.length = n1 := by have := hs1.1.len; simpa using this
            by_cases hlt : n1 < 128
            · have hlt2 : ¬ (128 : Int) ≤ n1 := by omega
              have ha2 := Lib.hid (show absorb s (r ++ b) = s1 by rw [← ha]; exact absorb_short s1 (by omega))
              have hl2 := Lib.hid (show left (r ++ b) = b1 by rw [← hl]; exact left_short (by omega))
              obtain rfl : N' = n1 := by rw [← hNl.out, hl2.out, hlen]
              have hs11 : Sees wr wr.heap.size A1 N' c1 (b1.map bv) := hs1.1
              clear hlen ha hl
              go_wp2_with (first
                | (with_reducible refine wpList_append_clone _ rfl (.tmp 47) (.tmp 48) _ rfl 5 i0 _ Tryd.underlying24 hi0 hz0 hz1 hz2 rfl wr.heap.size rfl (own_empty _ _ _ (heap_alloc_new wr _)) A1 N' c1 (b1.map bv) rfl ((hs11.alloc (Nat.le_refl _) _).more (by rw [World.size_alloc]; omega)) (bv_one _) (by omega) (by rw [World.size_alloc]; omega) ?_
                   intro A7 c7 w10 hS10 hk10 hb10
                   have Hga := (H0.alloc (.cells #[] 5)).keep hb10 H0.lt
                   have H1a := (H1.alloc (.cells #[] 5)).keep hb10 H1.lt
                   have HBa := (HB.alloc HB.size (.cells #[] 5)).trans (hb10.mono HB.size)
                   have hS11 : SeesIn w10 A7 N' c7 (b1.map bv) (fun b => wr.heap.size ≤ b) := hS10.imp (fun b _ hx => by rcases hx with hx | hx; exact Nat.le_of_eq hx.symm; rw [World.size_alloc] at hx; omega)
                   obtain ⟨_, _, _, _, _, _, _, _, k8, _⟩ := Hga.all
                   have f8 := Hga.frozen 8
                   have L := Hga.setRest A7 N' c7
                   have Z := H1a.setOther ⟨(w.heap.size + 1 + 1), 8, none⟩ (.slice A7 N' c7) (show w.heap.size + 1 ≠ (w.heap.size + 1 + 1) by omega)
                   have HB2 := HBa.setCell (p := ⟨(w.heap.size + 1 + 1), 8, none⟩) (show w.heap.size ≤ (w.heap.size + 1 + 1) by omega) (.slice A7 N' c7)
                   have hz1' := H1.lt
                   clear hb10 hk10 hS10)
                | (with_reducible refine wpList_load_h rfl (.tmp 6) rfl (w.heap.size + 1 + 1) rfl s1 A7 N' c7 mm L Tryd.underlying45 Tryd.infoH ?_)
                | (with_reducible refine wpList_store_h rfl (.tmp 4) (.tmp 51) rfl (w.heap.size + 1) s1 A7 N' c7 mm rfl rfl sz none 0 0 0 Z Tryd.infoH w.heap.size w HB2 (by omega) ?_; intro w12 Hg ho hsz2 hb12))
              exact bodyPost_ret (results_cell_tmp rfl _ _ (w.heap.size + 1) _ _ _ _ rfl Hg Tryd.underlying45 rfl (by rw [Tryd.infoH]; rfl)) rfl
                ⟨A7, c7, by rw [ha2.out]; rfl, by rw [hl2.out]; exact (hS11.keep (by rw [hsz2, World.size_setCell]; exact Nat.le_refl _) (fun b _ hx => (ho b (by omega)).trans (heap_setCell_other w10 _ b _ (show b ≠ (w.heap.size + 1 + 1) by omega)))).1, hb12⟩
            · have hge : (128 : Int) ≤ n1 := by omega
              have hle1 := hs1.1.le
              obtain ⟨k0, k1, k2, k3, k4, k5, k6, k7, _, _⟩ := H0.all
              have ht := hs1.take (k := 128) (by omega)
              rw [← List.map_take] at ht
              have hd := hs1.1.drop (k := 128) (by omega)
              obtain ⟨ab, ao, _, rfl, _, _, _⟩ := hs1.1.cell (k := 0) (by omega)
              have hXa := hs1.2 ab ao rfl (by omega)
              rw [← List.map_drop] at hd
              have habs := Lib.hid ((absorb_long s1 (l := b1) (by omega)).symm.trans ha)
              have hlef := Lib.hid ((left_long (l := b1) (by omega)).symm.trans hl)
              have hbt := Lib.hid (blk_take s1 b1)
              have hc1 : 128 ≤ c1 := by omega
              clear hlen ha hl
              rcases Nat.lt_or_eq_of_le hc1 with hc64 | hc64
              all_goals
               first | (subst hc64; obtain rfl : n1 = 128 := by omega) | skip
               first | rw [if_pos rfl] at hd | (rw [if_neg (by omega)] at hd; simp only [Option.map_some, Addr.add_mid] at hd)
               go_wp2
               go_region_with ((go_at_call 43
                                have BI := block_any _ _ _ _ (b1.take 128) s1 wr.drew ht.1.drew (Nat.le_refl _) (Nat.le_refl _) (by omega)
                                rw [hbt.out] at BI
                                generalize blk s1 b1 = t at *
                                rw [sv_eq s1, sv_eq t] at BI
                                (with_reducible refine BI.mono ?_)
                                rintro e w11 ⟨rfl, hb11⟩
                                have F0 := HoldsH.keep (W := wr.drew) H0 hb11 H0.lt
                                have F1 := HoldsH.keep (W := wr.drew) H1 hb11 H1.lt
                                have FB := HB.drew.trans (hb11.mono HB.size)
                                obtain ⟨f0, f1, f2, f3, f4, f5, f6, f7, _, _⟩ := F0.all
                                have fz := F0.frozen))
               all_goals
                have CS : HoldsH (stateIn w11 (w.heap.size + 1 + 1) t) (w.heap.size + 1 + 1) t A4 n c4 mm := F0.setState t
                have CO : HoldsH (stateIn w11 (w.heap.size + 1 + 1) t) (w.heap.size + 1) sz none 0 0 0 := (stateIn_oth w11 (w.heap.size + 1 + 1) t _ (by omega)).trans F1
                have CB : Below w.heap.size w (stateIn w11 (w.heap.size + 1 + 1) t) := stateIn_below FB (w.heap.size + 1 + 1) t (by omega)
                have CZ : w7.heap.size ≤ (stateIn w11 (w.heap.size + 1 + 1) t).heap.size := by rw [stateIn_size]; exact Nat.le_trans hsz hb11.size
                have hd2 := (hd.drew.below hb11).more (show wr.heap.size ≤ (stateIn w11 (w.heap.size + 1 + 1) t).heap.size by rw [stateIn_size]; exact hb11.size)
                have hd3 := hd2.keepBlock (w' := stateIn w11 (w.heap.size + 1 + 1) t) (fun b o e hn => stateIn_oth w11 (w.heap.size + 1 + 1) t b (Nat.ne_of_gt (Nat.lt_of_lt_of_le hG7 (addr_block e ▸ hXa))))
                have hX3 : ∀ b o, (some (⟨ab, ao + 128, none⟩ : Addr)) = some ⟨b, o, none⟩ → w7.heap.size ≤ b := fun b o e => addr_block e ▸ hXa
                have hX4 : ∀ b o, (some (⟨ab, ao, none⟩ : Addr)) = some ⟨b, o, none⟩ → w7.heap.size ≤ b := fun b o e => addr_block e ▸ hXa
                have hS3 : SeesIn (stateIn w11 (w.heap.size + 1 + 1) t) _ _ _ _ (fun k => w7.heap.size ≤ k) := ⟨hd3, fun b o e _ => by first | exact hX3 b o e | exact hX4 b o e⟩
                unfold stateIn at CS CO CB CZ hS3
                clear hX3 hX4 hd3 fz f0 f1 f2 f3 f4 f5 f6 f7 F0 F1 FB hb11 BI hd2 k0 k1 k2 k3 k4 k5 k6 k7
                go_wp2
                go_roundw
                case rel => exact ⟨t, b1.drop 128, _, _, _, rfl, by omega, hS3, habs.out, hlef.out, CS, CO, CB, CZ⟩
                case measure => simp [lenV] <;> omega
        exact AllReadyH.nil
      exact AllReadyH.nil
    exact AllReadyH.nil
  exact AllReadyH.nil
end Go.Proofs.YtppaffamlfghjaaDoor
