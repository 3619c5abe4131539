/-
  The closure that mixes a block's numbers as they are asked for.
-/
import Derived.Test.YtppaffamlfghjaaDoorShaOps
import Derived.Deep.RegionHeld3
namespace Go.Proofs.YtppaffamlfghjaaDoor
open Go.RowKit

/-- Block g holds the numbers l, as an array of type ty. -/
def HoldsW (W : World) (ty g : Nat) (l : List UInt32) : Prop := W.heap[g]? = some (.cells (l.map uv).toArray ty (0, 0))
section
variable {W W' : World} {ty g : Nat} {l : List UInt32}
theorem HoldsW.lt (h : HoldsW W ty g l) : g < W.heap.size := (Array.getElem?_eq_some_iff.1 h).1
theorem HoldsW.keep (h : HoldsW W ty g l) {D : Nat} (hb : Below D W W') (hD : g < D) : HoldsW W' ty g l := (hb.block g hD).trans h
theorem HoldsW.cell (h : HoldsW W ty g l) {j : Nat} (hj : j < l.length) : W.cell? ⟨g, j, none⟩ = some (.int .u32 ((l.getD j 0).toNat : Int)) := by
  rw [cell_of_row W g j _ ty (0, 0) h]
  simp [uv, hj]
theorem HoldsW.frozen (h : HoldsW W ty g l) (j : Nat) : W.frozen? ⟨g, j, none⟩ = false := frozen_of_row W g j _ ty h
theorem HoldsW.set (h : HoldsW W ty g l) (j : Nat) (x : UInt32) : HoldsW (W.setCell ⟨g, j, none⟩ (.int .u32 (x.toNat : Int))) ty g (l.set j x) := by
  unfold HoldsW
  rw [heap_setCell_same W g j _ ty _ h]
  congr 2
  rw [List.map_set, List.setIfInBounds_toArray]
  rfl
theorem HoldsW.drewN (h : HoldsW W ty g l) (n : Nat) : HoldsW (W.drewN n) ty g l := h
end

/-- What the ring of sixteen holds when the words below k have been asked for. -/
def ringAt (b : List UInt8) (k j : Nat) : UInt32 := ww b (j + 16 * ((max k 16 - 1 - j) / 16))
def ring (b : List UInt8) (k : Nat) : List UInt32 := (List.range 16).map (ringAt b k)
theorem ring_length (b : List UInt8) (k : Nat) : (ring b k).length = 16 := by simp [ring]
theorem ring_getD (b : List UInt8) (k : Nat) {j : Nat} (hj : j < 16) : (ring b k).getD j 0 = ringAt b k j := by simp [ring, List.getD, hj]
theorem ring_low (b : List UInt8) {k : Nat} (hk : k < 16) : ring b (k + 1) = ring b k := by
  unfold ring
  refine List.map_congr_left fun j _ => ?_
  unfold ringAt
  rw [show max (k + 1) 16 = max k 16 by omega]
theorem ring_set (b : List UInt8) {k : Nat} (hk : 16 ≤ k) : ring b (k + 1) = (ring b k).set (k % 16) (ww b k) := by
  refine List.ext_getElem (by simp [ring]) fun j h1 h2 => ?_
  have hj : j < 16 := by simpa [ring] using h1
  rw [List.getElem_set]
  simp only [ring, List.getElem_map, List.getElem_range]
  split
  · next e =>
    subst e
    unfold ringAt
    congr 1
    omega
  · next e =>
    unfold ringAt
    congr 1
    omega
theorem ring_at (b : List UInt8) {k d : Nat} (hk : 16 ≤ k) (h1 : 1 ≤ d) (h2 : d ≤ 16) : ringAt b k ((k - d) % 16) = ww b (k - d) := by
  unfold ringAt
  congr 1
  omega
theorem ring_here (b : List UInt8) {k : Nat} (hk : 16 ≤ k) : ringAt b k (k % 16) = ww b (k - 16) := by
  unfold ringAt
  congr 1
  omega

theorem u_addw (x y : UInt32) : IntKind.u32.wrap ((x.toNat : Int) + (y.toNat : Int)) = ((x + y).toNat : Int) := by
  rw [IntKind.wrap_u32]; exact u_add x y

set_option maxRecDepth 100000 in
theorem mixed_low (b : List UInt8) (k g ty : Nat) (w : World) (hk : k < 16) (h : HoldsW w ty g (ring b k)) :
    Calls Tryd.prog 60 #[.int .i64 (k : Int), .pointer (some ⟨g, 0, none⟩)] w (GaveU w (ww b k)) := by
  have hc := h.cell (j := k) (by rw [ring_length]; exact hk)
  rw [ring_getD b k hk, show ringAt b k k = ww b k by unfold ringAt; congr 1; omega] at hc
  have h1 : ((k : Int) % 16) = k := by omega
  go_enter Tryd.func60, Tryd.ntmps60
  go_wp2
  go_ret
  exact ⟨rfl, rfl⟩

set_option maxRecDepth 100000 in
set_option maxHeartbeats 1000000 in
theorem mixed_high (b : List UInt8) (k g ty : Nat) (w : World) (hk : 16 ≤ k) (hk2 : k < 64) (h : HoldsW w ty g (ring b k)) :
    Calls Tryd.prog 60 #[.int .i64 (k : Int), .pointer (some ⟨g, 0, none⟩)] w fun e w' => e = .returned (.int .u32 ((ww b k).toNat : Int)) ∧ HoldsW w' ty g (ring b (k + 1)) ∧ Below g w w' := by
  have hm : ∀ d, (k - d) % 16 < 16 := fun d => Nat.mod_lt _ (by omega)
  have c2 := h.cell (j := (k - 2) % 16) (by rw [ring_length]; exact hm 2)
  have c7 := h.cell (j := (k - 7) % 16) (by rw [ring_length]; exact hm 7)
  have c15 := h.cell (j := (k - 15) % 16) (by rw [ring_length]; exact hm 15)
  have c16 := h.cell (j := k % 16) (by rw [ring_length]; exact hm 0)
  rw [ring_getD b k (hm _), ring_at b hk (by omega) (by omega)] at c2 c7 c15
  rw [ring_getD b k (Nat.mod_lt _ (by omega)), ring_here b hk] at c16
  have fz := h.frozen (k % 16)
  have H := Lib.hid h
  have hw := Lib.hid (ww_high b hk)
  clear h
  have e2 : ((k : Int) - 2).tmod 16 = (((k - 2) % 16 : Nat) : Int) := by rw [Int.tmod_eq_emod_of_nonneg (by omega)]; omega
  have e7 : ((k : Int) - 7).tmod 16 = (((k - 7) % 16 : Nat) : Int) := by rw [Int.tmod_eq_emod_of_nonneg (by omega)]; omega
  have e15 : ((k : Int) - 15).tmod 16 = (((k - 15) % 16 : Nat) : Int) := by rw [Int.tmod_eq_emod_of_nonneg (by omega)]; omega
  have e16 : (k : Int).tmod 16 = ((k % 16 : Nat) : Int) := by rw [Int.tmod_eq_emod_of_nonneg (by omega)]; omega
  have l2 : (((k - 2) % 16 : Nat) : Int) < 16 := by omega
  have l7 : (((k - 7) % 16 : Nat) : Int) < 16 := by omega
  have l15 : (((k - 15) % 16 : Nat) : Int) < 16 := by omega
  have l16 : ((k % 16 : Nat) : Int) < 16 := by omega
  have n2 : (k - 2) % 16 ≠ k % 16 := by omega
  have n7 : (k - 7) % 16 ≠ k % 16 := by omega
  have n15 : (k - 15) % 16 ≠ k % 16 := by omega
  have hr := Lib.hid (ring_set b hk)
  generalize ww b (k - 2) = x2 at *
  generalize ww b (k - 7) = x7 at *
  generalize ww b (k - 15) = x15 at *
  generalize ww b (k - 16) = x16 at *
  generalize (k - 2) % 16 = q2 at *
  generalize (k - 7) % 16 = q7 at *
  generalize (k - 15) % 16 = q15 at *
  generalize k % 16 = q16 at *
  have M2 : Hid (∀ W, Calls Tryd.prog 61 #[.int .u32 (x2.toNat : Int), .int .i64 17, .int .i64 19, .int .i64 10] W (GaveQ W (smix x2 17 19 10))) := Lib.hid fun W => shiftedMix_any x2 17 19 10 W (by omega) (by omega) (by omega) (by omega) (by omega) (by omega)
  have M15 : Hid (∀ W, Calls Tryd.prog 61 #[.int .u32 (x15.toNat : Int), .int .i64 7, .int .i64 18, .int .i64 3] W (GaveQ W (smix x15 7 18 3))) := Lib.hid fun W => shiftedMix_any x15 7 18 3 W (by omega) (by omega) (by omega) (by omega) (by omega) (by omega)
  have hk16 : (16 : Int) ≤ k := by omega
  have hk64 : (k : Int) < 64 := by omega
  have w2 : IntKind.i64.wrap ((k : Int) - 2) = k - 2 := by simp only [IntKind.wrap, IntKind.bits, IntKind.signed]; simp; omega
  have w7 : IntKind.i64.wrap ((k : Int) - 7) = k - 7 := by simp only [IntKind.wrap, IntKind.bits, IntKind.signed]; simp; omega
  have w15 : IntKind.i64.wrap ((k : Int) - 15) = k - 15 := by simp only [IntKind.wrap, IntKind.bits, IntKind.signed]; simp; omega
  go_enter Tryd.func60, Tryd.ntmps60
  go_wp2
  refine wp_region_noPanic ?_
  refine wp_region_held_drew (S := (fun W => W.cell? ⟨g, q2, none⟩ = some (.int .u32 (x2.toNat : Int)) ∧ W.cell? ⟨g, q7, none⟩ = some (.int .u32 (x7.toNat : Int)) ∧ W.cell? ⟨g, q15, none⟩ = some (.int .u32 (x15.toNat : Int)))) (by kernel_rfl) (by (try dsimp only); (first | (simp [*]; done) | (refine ⟨?_, ?_, ?_⟩ <;> (rw [World.cell?_setCell_other _ _ _ _ (by intro e; injection e with _ e2 _; omega)]; simp [*])))) (fun hHeld => ?_)
  refine wpAnyH_take (i := 0) (v := ?_) rfl (by kernel_rfl) (by kernel_rfl) (by kernel_rfl) (fun _ _ _ h => h) (Or.inl ⟨by rfl, ?_⟩) (by assumption) ?_
  rotate_left
  · intro w hSw; (try dsimp only at hSw); go_simp <;> with_reducible rfl
  try simp only [Act.put, List.getElem_toArray, List.getElem_cons_zero, List.setIfInBounds_toArray, List.set_cons_zero, List.set_cons_succ]
  refine wpAnyH_take (i := 1) (v := ?_) rfl (by kernel_rfl) (by kernel_rfl) (by kernel_rfl) (fun _ _ _ h => h) (Or.inl ⟨by rfl, ?_⟩) (by assumption) ?_
  rotate_left
  · intro w hSw; (try dsimp only at hSw); go_simp <;> with_reducible rfl
  try simp only [Act.put, List.getElem_toArray, List.getElem_cons_succ, List.getElem_cons_zero, List.setIfInBounds_toArray, List.set_cons_zero, List.set_cons_succ]
  refine wpAnyH_take (i := 2) (v := ?_) rfl (by kernel_rfl) (by kernel_rfl) (by kernel_rfl) (fun _ _ _ h => h) (Or.inl ⟨by rfl, ?_⟩) (by assumption) ?_
  rotate_left
  · intro w hSw; (try dsimp only at hSw); go_simp <;> with_reducible rfl
  try simp only [Act.put, List.getElem_toArray, List.getElem_cons_succ, List.getElem_cons_zero, List.setIfInBounds_toArray, List.set_cons_zero, List.set_cons_succ]
  refine wpAnyH_take (i := 4) (v := ?_) rfl (by kernel_rfl) (by kernel_rfl) (by kernel_rfl) (fun _ _ _ h => h) (Or.inl ⟨by rfl, ?_⟩) (by assumption) ?_
  rotate_left
  · intro w hSw; (try dsimp only at hSw); go_simp <;> with_reducible rfl
  try simp only [Act.put, List.getElem_toArray, List.getElem_cons_succ, List.getElem_cons_zero, List.setIfInBounds_toArray, List.set_cons_zero, List.set_cons_succ]
  refine wpAnyH_take (i := 5) (v := ?_) rfl (by kernel_rfl) (by kernel_rfl) (by kernel_rfl) (fun _ _ _ h => h) (Or.inl ⟨by rfl, ?_⟩) (by assumption) ?_
  rotate_left
  · intro w hSw; (try dsimp only at hSw); go_simp <;> with_reducible rfl
  try simp only [Act.put, List.getElem_toArray, List.getElem_cons_succ, List.getElem_cons_zero, List.setIfInBounds_toArray, List.set_cons_zero, List.set_cons_succ]
  refine wpAnyH_take (i := 6) (v := ?_) rfl (by kernel_rfl) (by kernel_rfl) (by kernel_rfl) (fun _ _ _ h => h) (Or.inl ⟨by rfl, ?_⟩) (by assumption) ?_
  rotate_left
  · intro w hSw; (try dsimp only at hSw); go_simp <;> with_reducible rfl
  try simp only [Act.put, List.getElem_toArray, List.getElem_cons_succ, List.getElem_cons_zero, List.setIfInBounds_toArray, List.set_cons_zero, List.set_cons_succ]
  refine wpAnyH_take (i := 7) (v := ?_) rfl (by kernel_rfl) (by kernel_rfl) (by kernel_rfl) (fun _ _ _ h => h) (Or.inl ⟨by rfl, ?_⟩) (by assumption) ?_
  rotate_left
  · intro w hSw; (try dsimp only at hSw); go_simp <;> with_reducible rfl
  try simp only [Act.put, List.getElem_toArray, List.getElem_cons_succ, List.getElem_cons_zero, List.setIfInBounds_toArray, List.set_cons_zero, List.set_cons_succ]
  refine wpAnyH_take (i := 8) (v := ?_) rfl (by kernel_rfl) (by kernel_rfl) (by kernel_rfl) (fun _ _ _ h => h) (Or.inl ⟨by rfl, ?_⟩) (by assumption) ?_
  rotate_left
  · intro w hSw; (try dsimp only at hSw); go_simp <;> with_reducible rfl
  try simp only [Act.put, List.getElem_toArray, List.getElem_cons_succ, List.getElem_cons_zero, List.setIfInBounds_toArray, List.set_cons_zero, List.set_cons_succ]
  refine wpAnyH_take (i := 10) (v := ?_) rfl (by kernel_rfl) (by kernel_rfl) (by kernel_rfl) (fun _ _ _ h => h) (Or.inl ⟨by rfl, ?_⟩) (by assumption) ?_
  rotate_left
  · intro w hSw; (try dsimp only at hSw); go_simp <;> with_reducible rfl
  try simp only [Act.put, List.getElem_toArray, List.getElem_cons_succ, List.getElem_cons_zero, List.setIfInBounds_toArray, List.set_cons_zero, List.set_cons_succ]
  refine wpAnyH_take (i := 11) (v := ?_) rfl (by kernel_rfl) (by kernel_rfl) (by kernel_rfl) (fun _ _ _ h => h) (Or.inl ⟨by rfl, ?_⟩) (by assumption) ?_
  rotate_left
  · intro w hSw; (try dsimp only at hSw); go_simp <;> with_reducible rfl
  try simp only [Act.put, List.getElem_toArray, List.getElem_cons_succ, List.getElem_cons_zero, List.setIfInBounds_toArray, List.set_cons_zero, List.set_cons_succ]
  refine wpAnyH_take (i := 12) (v := ?_) rfl (by kernel_rfl) (by kernel_rfl) (by kernel_rfl) (fun _ _ _ h => h) (Or.inl ⟨by rfl, ?_⟩) (by assumption) ?_
  rotate_left
  · intro w hSw; (try dsimp only at hSw); go_simp <;> with_reducible rfl
  try simp only [Act.put, List.getElem_toArray, List.getElem_cons_succ, List.getElem_cons_zero, List.setIfInBounds_toArray, List.set_cons_zero, List.set_cons_succ]
  refine wpAnyH_take (i := 13) (v := ?_) rfl (by kernel_rfl) (by kernel_rfl) (by kernel_rfl) (fun _ _ _ h => h) (Or.inl ⟨by rfl, ?_⟩) (by assumption) ?_
  rotate_left
  · intro w hSw; (try dsimp only at hSw); go_simp <;> with_reducible rfl
  try simp only [Act.put, List.getElem_toArray, List.getElem_cons_succ, List.getElem_cons_zero, List.setIfInBounds_toArray, List.set_cons_zero, List.set_cons_succ]
  refine wpAnyH_take (i := 14) (v := ?_) rfl (by kernel_rfl) (by kernel_rfl) (by kernel_rfl) (fun _ _ _ h => h) (Or.inl ⟨by rfl, ?_⟩) (by assumption) ?_
  rotate_left
  · intro w hSw; (try dsimp only at hSw); go_simp <;> with_reducible rfl
  try simp only [Act.put, List.getElem_toArray, List.getElem_cons_succ, List.getElem_cons_zero, List.setIfInBounds_toArray, List.set_cons_zero, List.set_cons_succ]
  refine wpAnyH_take (i := 16) (v := ?_) rfl (by kernel_rfl) (by kernel_rfl) (by kernel_rfl) (fun _ _ _ h => h) (Or.inl ⟨by rfl, ?_⟩) (by assumption) ?_
  rotate_left
  · intro w hSw; (try dsimp only at hSw); go_simp <;> with_reducible rfl
  try simp only [Act.put, List.getElem_toArray, List.getElem_cons_succ, List.getElem_cons_zero, List.setIfInBounds_toArray, List.set_cons_zero, List.set_cons_succ]
  refine wpAnyH_take (i := 17) (v := ?_) rfl (by kernel_rfl) (by kernel_rfl) (by kernel_rfl) (fun _ _ _ h => h) (Or.inl ⟨by rfl, ?_⟩) (by assumption) ?_
  rotate_left
  · intro w hSw; (try dsimp only at hSw); go_simp <;> with_reducible rfl
  try simp only [Act.put, List.getElem_toArray, List.getElem_cons_succ, List.getElem_cons_zero, List.setIfInBounds_toArray, List.set_cons_zero, List.set_cons_succ]
  refine wpAnyH_take (i := 18) (v := ?_) rfl (by kernel_rfl) (by kernel_rfl) (by kernel_rfl) (fun _ _ _ h => h) (Or.inl ⟨by rfl, ?_⟩) (by assumption) ?_
  rotate_left
  · intro w hSw; (try dsimp only at hSw); go_simp <;> with_reducible rfl
  try simp only [Act.put, List.getElem_toArray, List.getElem_cons_succ, List.getElem_cons_zero, List.setIfInBounds_toArray, List.set_cons_zero, List.set_cons_succ]
  refine wpAnyH_take (i := 19) (v := ?_) rfl (by kernel_rfl) (by kernel_rfl) (by kernel_rfl) (fun _ _ _ h => h) (Or.inl ⟨by rfl, ?_⟩) (by assumption) ?_
  rotate_left
  · intro w hSw; (try dsimp only at hSw); go_simp <;> with_reducible rfl
  try simp only [Act.put, List.getElem_toArray, List.getElem_cons_succ, List.getElem_cons_zero, List.setIfInBounds_toArray, List.set_cons_zero, List.set_cons_succ]
  refine wpAnyH_take (i := 20) (v := ?_) rfl (by kernel_rfl) (by kernel_rfl) (by kernel_rfl) (fun _ _ _ h => h) (Or.inl ⟨by rfl, ?_⟩) (by assumption) ?_
  rotate_left
  · intro w hSw; (try dsimp only at hSw); go_simp <;> with_reducible rfl
  try simp only [Act.put, List.getElem_toArray, List.getElem_cons_succ, List.getElem_cons_zero, List.setIfInBounds_toArray, List.set_cons_zero, List.set_cons_succ]
  refine wpAnyH_ready (rs := [3, 9]) (by kernel_rfl) (by simp) ?_
  refine AllReadyH.cons rfl (fun K hK => ?_) ?_
  · simp only [List.getElem_toArray, List.getElem_cons_succ, List.getElem_cons_zero]
    go_simp
    refine hK.out _ _ ?_ (fun hHeld => ?_)
    · (try dsimp only); (first | (simp [*]; done) | (refine ⟨?_, ?_, ?_⟩ <;> (rw [World.cell?_setCell_other _ _ _ _ (by intro e; injection e with _ e2 _; omega)]; simp [*])))
    clear hK K
    try simp only [Act.put, List.getElem_toArray, List.getElem_cons_succ, List.getElem_cons_zero, List.setIfInBounds_toArray, List.set_cons_zero, List.set_cons_succ]
    refine wpAnyH_ready (rs := [9]) (by kernel_rfl) (by simp) ?_
    refine AllReadyH.cons rfl (fun K hK => ?_) ?_
    · simp only [List.getElem_toArray, List.getElem_cons_succ, List.getElem_cons_zero]
      go_simp
      ((go_at_call 61; (first | with_reducible refine (M2.out _).mono ?_ | with_reducible refine (M15.out _).mono ?_); rintro e w' ⟨rfl, m, rfl⟩))
      go_wp2_with fail
      refine hK.out _ _ ?_ (fun hHeld => ?_)
      · (try dsimp only); (first | (simp [*]; done) | (refine ⟨?_, ?_, ?_⟩ <;> (rw [World.cell?_setCell_other _ _ _ _ (by intro e; injection e with _ e2 _; omega)]; simp [*])))
      clear hK K
      try simp only [Act.put, List.getElem_toArray, List.getElem_cons_succ, List.getElem_cons_zero, List.setIfInBounds_toArray, List.set_cons_zero, List.set_cons_succ]
      refine wpAnyH_take (i := 15) (v := ?_) rfl (by kernel_rfl) (by kernel_rfl) (by kernel_rfl) (fun _ _ _ h => h) (Or.inl ⟨by rfl, ?_⟩) (by assumption) ?_
      rotate_left
      · intro w hSw; (try dsimp only at hSw); go_simp <;> with_reducible rfl
      try simp only [Act.put, List.getElem_toArray, List.getElem_cons_succ, List.getElem_cons_zero, List.setIfInBounds_toArray, List.set_cons_zero, List.set_cons_succ]
      refine wpAnyH_ready (rs := [21]) (by kernel_rfl) (by simp) ?_
      refine AllReadyH.cons rfl (fun K hK => ?_) ?_
      · simp only [List.getElem_toArray, List.getElem_cons_succ, List.getElem_cons_zero]
        go_simp
        ((go_at_call 61; (first | with_reducible refine (M2.out _).mono ?_ | with_reducible refine (M15.out _).mono ?_); rintro e w' ⟨rfl, m, rfl⟩))
        go_wp2_with fail
        refine hK.out _ _ ?_ (fun hHeld => ?_)
        · (try dsimp only); (first | (simp [*]; done) | (refine ⟨?_, ?_, ?_⟩ <;> (rw [World.cell?_setCell_other _ _ _ _ (by intro e; injection e with _ e2 _; omega)]; simp [*])))
        clear hK K
        try simp only [Act.put, List.getElem_toArray, List.getElem_cons_succ, List.getElem_cons_zero, List.setIfInBounds_toArray, List.set_cons_zero, List.set_cons_succ]
        refine wpAnyH_take (i := 22) (v := ?_) rfl (by kernel_rfl) (by kernel_rfl) (by kernel_rfl) (fun _ _ _ h => h) (Or.inl ⟨by rfl, ?_⟩) (by assumption) ?_
        rotate_left
        · intro w hSw; (try dsimp only at hSw); go_simp <;> with_reducible rfl
        try simp only [Act.put, List.getElem_toArray, List.getElem_cons_succ, List.getElem_cons_zero, List.setIfInBounds_toArray, List.set_cons_zero, List.set_cons_succ]
        refine wpAnyH_take (i := 23) (v := ?_) rfl (by kernel_rfl) (by kernel_rfl) (by kernel_rfl) (fun _ _ _ h => h) (Or.inl ⟨by rfl, ?_⟩) (by assumption) ?_
        rotate_left
        · intro w hSw; (try dsimp only at hSw); go_simp <;> with_reducible rfl
        try simp only [Act.put, List.getElem_toArray, List.getElem_cons_succ, List.getElem_cons_zero, List.setIfInBounds_toArray, List.set_cons_zero, List.set_cons_succ]
        refine wpAnyH_take (i := 24) (v := ?_) rfl (by kernel_rfl) (by kernel_rfl) (by kernel_rfl) (fun _ _ _ h => h) (Or.inl ⟨by rfl, ?_⟩) (by assumption) ?_
        rotate_left
        · intro w hSw; (try dsimp only at hSw); go_simp <;> with_reducible rfl
        try simp only [Act.put, List.getElem_toArray, List.getElem_cons_succ, List.getElem_cons_zero, List.setIfInBounds_toArray, List.set_cons_zero, List.set_cons_succ]
        refine wpAnyH_ready (rs := [25]) (by kernel_rfl) (by simp) ?_
        refine AllReadyH.cons rfl (fun K hK => ?_) ?_
        · simp only [List.getElem_toArray, List.getElem_cons_succ, List.getElem_cons_zero]
          go_simp
          refine hK.out _ _ ?_ (fun hHeld => ?_)
          · (try dsimp only); (first | (simp [*]; done) | (refine ⟨?_, ?_, ?_⟩ <;> (rw [World.cell?_setCell_other _ _ _ _ (by intro e; injection e with _ e2 _; omega)]; simp [*])))
          clear hK K
          try simp only [Act.put, List.getElem_toArray, List.getElem_cons_succ, List.getElem_cons_zero, List.setIfInBounds_toArray, List.set_cons_zero, List.set_cons_succ]
          refine wpAnyH_done (by kernel_rfl) ?_ _
          refine NoPanic.normal ?_
          simp only [u_addw, ← hw.out]
          have hset : ∀ n : Nat, HoldsW ((w.drewN n).setCell ⟨g, q16, none⟩ (.int .u32 ((ww b k).toNat : Int))) ty g (ring b (k + 1)) := fun n => by
            rw [hr.out]
            exact HoldsW.set (show HoldsW (w.drewN n) ty g (ring b k) from H.out) q16 (ww b k)
          go_wp2
          go_ret
          exact ⟨rfl, hset _, (below_drewN (Below.refl g w) _).setCell (p := ⟨g, q16, none⟩) (Nat.le_refl g) _⟩
        exact AllReadyH.nil
      exact AllReadyH.nil
    exact AllReadyH.nil
  refine AllReadyH.cons rfl (fun K hK => ?_) ?_
  · simp only [List.getElem_toArray, List.getElem_cons_succ, List.getElem_cons_zero]
    go_simp
    ((go_at_call 61; (first | with_reducible refine (M2.out _).mono ?_ | with_reducible refine (M15.out _).mono ?_); rintro e w' ⟨rfl, m, rfl⟩))
    go_wp2_with fail
    refine hK.out _ _ ?_ (fun hHeld => ?_)
    · (try dsimp only); (first | (simp [*]; done) | (refine ⟨?_, ?_, ?_⟩ <;> (rw [World.cell?_setCell_other _ _ _ _ (by intro e; injection e with _ e2 _; omega)]; simp [*])))
    clear hK K
    try simp only [Act.put, List.getElem_toArray, List.getElem_cons_succ, List.getElem_cons_zero, List.setIfInBounds_toArray, List.set_cons_zero, List.set_cons_succ]
    refine wpAnyH_take (i := 15) (v := ?_) rfl (by kernel_rfl) (by kernel_rfl) (by kernel_rfl) (fun _ _ _ h => h) (Or.inl ⟨by rfl, ?_⟩) (by assumption) ?_
    rotate_left
    · intro w hSw; (try dsimp only at hSw); go_simp <;> with_reducible rfl
    try simp only [Act.put, List.getElem_toArray, List.getElem_cons_succ, List.getElem_cons_zero, List.setIfInBounds_toArray, List.set_cons_zero, List.set_cons_succ]
    refine wpAnyH_ready (rs := [3, 21]) (by kernel_rfl) (by simp) ?_
    refine AllReadyH.cons rfl (fun K hK => ?_) ?_
    · simp only [List.getElem_toArray, List.getElem_cons_succ, List.getElem_cons_zero]
      go_simp
      refine hK.out _ _ ?_ (fun hHeld => ?_)
      · (try dsimp only); (first | (simp [*]; done) | (refine ⟨?_, ?_, ?_⟩ <;> (rw [World.cell?_setCell_other _ _ _ _ (by intro e; injection e with _ e2 _; omega)]; simp [*])))
      clear hK K
      try simp only [Act.put, List.getElem_toArray, List.getElem_cons_succ, List.getElem_cons_zero, List.setIfInBounds_toArray, List.set_cons_zero, List.set_cons_succ]
      refine wpAnyH_ready (rs := [21]) (by kernel_rfl) (by simp) ?_
      refine AllReadyH.cons rfl (fun K hK => ?_) ?_
      · simp only [List.getElem_toArray, List.getElem_cons_succ, List.getElem_cons_zero]
        go_simp
        ((go_at_call 61; (first | with_reducible refine (M2.out _).mono ?_ | with_reducible refine (M15.out _).mono ?_); rintro e w' ⟨rfl, m, rfl⟩))
        go_wp2_with fail
        refine hK.out _ _ ?_ (fun hHeld => ?_)
        · (try dsimp only); (first | (simp [*]; done) | (refine ⟨?_, ?_, ?_⟩ <;> (rw [World.cell?_setCell_other _ _ _ _ (by intro e; injection e with _ e2 _; omega)]; simp [*])))
        clear hK K
        try simp only [Act.put, List.getElem_toArray, List.getElem_cons_succ, List.getElem_cons_zero, List.setIfInBounds_toArray, List.set_cons_zero, List.set_cons_succ]
        refine wpAnyH_take (i := 22) (v := ?_) rfl (by kernel_rfl) (by kernel_rfl) (by kernel_rfl) (fun _ _ _ h => h) (Or.inl ⟨by rfl, ?_⟩) (by assumption) ?_
        rotate_left
        · intro w hSw; (try dsimp only at hSw); go_simp <;> with_reducible rfl
        try simp only [Act.put, List.getElem_toArray, List.getElem_cons_succ, List.getElem_cons_zero, List.setIfInBounds_toArray, List.set_cons_zero, List.set_cons_succ]
        refine wpAnyH_take (i := 23) (v := ?_) rfl (by kernel_rfl) (by kernel_rfl) (by kernel_rfl) (fun _ _ _ h => h) (Or.inl ⟨by rfl, ?_⟩) (by assumption) ?_
        rotate_left
        · intro w hSw; (try dsimp only at hSw); go_simp <;> with_reducible rfl
        try simp only [Act.put, List.getElem_toArray, List.getElem_cons_succ, List.getElem_cons_zero, List.setIfInBounds_toArray, List.set_cons_zero, List.set_cons_succ]
        refine wpAnyH_take (i := 24) (v := ?_) rfl (by kernel_rfl) (by kernel_rfl) (by kernel_rfl) (fun _ _ _ h => h) (Or.inl ⟨by rfl, ?_⟩) (by assumption) ?_
        rotate_left
        · intro w hSw; (try dsimp only at hSw); go_simp <;> with_reducible rfl
        try simp only [Act.put, List.getElem_toArray, List.getElem_cons_succ, List.getElem_cons_zero, List.setIfInBounds_toArray, List.set_cons_zero, List.set_cons_succ]
        refine wpAnyH_ready (rs := [25]) (by kernel_rfl) (by simp) ?_
        refine AllReadyH.cons rfl (fun K hK => ?_) ?_
        · simp only [List.getElem_toArray, List.getElem_cons_succ, List.getElem_cons_zero]
          go_simp
          refine hK.out _ _ ?_ (fun hHeld => ?_)
          · (try dsimp only); (first | (simp [*]; done) | (refine ⟨?_, ?_, ?_⟩ <;> (rw [World.cell?_setCell_other _ _ _ _ (by intro e; injection e with _ e2 _; omega)]; simp [*])))
          clear hK K
          try simp only [Act.put, List.getElem_toArray, List.getElem_cons_succ, List.getElem_cons_zero, List.setIfInBounds_toArray, List.set_cons_zero, List.set_cons_succ]
          refine wpAnyH_done (by kernel_rfl) ?_ _
          refine NoPanic.normal ?_
          simp only [u_addw, ← hw.out]
          have hset : ∀ n : Nat, HoldsW ((w.drewN n).setCell ⟨g, q16, none⟩ (.int .u32 ((ww b k).toNat : Int))) ty g (ring b (k + 1)) := fun n => by
            rw [hr.out]
            exact HoldsW.set (show HoldsW (w.drewN n) ty g (ring b k) from H.out) q16 (ww b k)
          go_wp2
          go_ret
          exact ⟨rfl, hset _, (below_drewN (Below.refl g w) _).setCell (p := ⟨g, q16, none⟩) (Nat.le_refl g) _⟩
        exact AllReadyH.nil
      exact AllReadyH.nil
    refine AllReadyH.cons rfl (fun K hK => ?_) ?_
    · simp only [List.getElem_toArray, List.getElem_cons_succ, List.getElem_cons_zero]
      go_simp
      ((go_at_call 61; (first | with_reducible refine (M2.out _).mono ?_ | with_reducible refine (M15.out _).mono ?_); rintro e w' ⟨rfl, m, rfl⟩))
      go_wp2_with fail
      refine hK.out _ _ ?_ (fun hHeld => ?_)
      · (try dsimp only); (first | (simp [*]; done) | (refine ⟨?_, ?_, ?_⟩ <;> (rw [World.cell?_setCell_other _ _ _ _ (by intro e; injection e with _ e2 _; omega)]; simp [*])))
      clear hK K
      try simp only [Act.put, List.getElem_toArray, List.getElem_cons_succ, List.getElem_cons_zero, List.setIfInBounds_toArray, List.set_cons_zero, List.set_cons_succ]
      refine wpAnyH_take (i := 22) (v := ?_) rfl (by kernel_rfl) (by kernel_rfl) (by kernel_rfl) (fun _ _ _ h => h) (Or.inl ⟨by rfl, ?_⟩) (by assumption) ?_
      rotate_left
      · intro w hSw; (try dsimp only at hSw); go_simp <;> with_reducible rfl
      try simp only [Act.put, List.getElem_toArray, List.getElem_cons_succ, List.getElem_cons_zero, List.setIfInBounds_toArray, List.set_cons_zero, List.set_cons_succ]
      refine wpAnyH_ready (rs := [3]) (by kernel_rfl) (by simp) ?_
      refine AllReadyH.cons rfl (fun K hK => ?_) ?_
      · simp only [List.getElem_toArray, List.getElem_cons_succ, List.getElem_cons_zero]
        go_simp
        refine hK.out _ _ ?_ (fun hHeld => ?_)
        · (try dsimp only); (first | (simp [*]; done) | (refine ⟨?_, ?_, ?_⟩ <;> (rw [World.cell?_setCell_other _ _ _ _ (by intro e; injection e with _ e2 _; omega)]; simp [*])))
        clear hK K
        try simp only [Act.put, List.getElem_toArray, List.getElem_cons_succ, List.getElem_cons_zero, List.setIfInBounds_toArray, List.set_cons_zero, List.set_cons_succ]
        refine wpAnyH_take (i := 23) (v := ?_) rfl (by kernel_rfl) (by kernel_rfl) (by kernel_rfl) (fun _ _ _ h => h) (Or.inl ⟨by rfl, ?_⟩) (by assumption) ?_
        rotate_left
        · intro w hSw; (try dsimp only at hSw); go_simp <;> with_reducible rfl
        try simp only [Act.put, List.getElem_toArray, List.getElem_cons_succ, List.getElem_cons_zero, List.setIfInBounds_toArray, List.set_cons_zero, List.set_cons_succ]
        refine wpAnyH_take (i := 24) (v := ?_) rfl (by kernel_rfl) (by kernel_rfl) (by kernel_rfl) (fun _ _ _ h => h) (Or.inl ⟨by rfl, ?_⟩) (by assumption) ?_
        rotate_left
        · intro w hSw; (try dsimp only at hSw); go_simp <;> with_reducible rfl
        try simp only [Act.put, List.getElem_toArray, List.getElem_cons_succ, List.getElem_cons_zero, List.setIfInBounds_toArray, List.set_cons_zero, List.set_cons_succ]
        refine wpAnyH_ready (rs := [25]) (by kernel_rfl) (by simp) ?_
        refine AllReadyH.cons rfl (fun K hK => ?_) ?_
        · simp only [List.getElem_toArray, List.getElem_cons_succ, List.getElem_cons_zero]
          go_simp
          refine hK.out _ _ ?_ (fun hHeld => ?_)
          · (try dsimp only); (first | (simp [*]; done) | (refine ⟨?_, ?_, ?_⟩ <;> (rw [World.cell?_setCell_other _ _ _ _ (by intro e; injection e with _ e2 _; omega)]; simp [*])))
          clear hK K
          try simp only [Act.put, List.getElem_toArray, List.getElem_cons_succ, List.getElem_cons_zero, List.setIfInBounds_toArray, List.set_cons_zero, List.set_cons_succ]
          refine wpAnyH_done (by kernel_rfl) ?_ _
          refine NoPanic.normal ?_
          simp only [u_addw, ← hw.out]
          have hset : ∀ n : Nat, HoldsW ((w.drewN n).setCell ⟨g, q16, none⟩ (.int .u32 ((ww b k).toNat : Int))) ty g (ring b (k + 1)) := fun n => by
            rw [hr.out]
            exact HoldsW.set (show HoldsW (w.drewN n) ty g (ring b k) from H.out) q16 (ww b k)
          go_wp2
          go_ret
          exact ⟨rfl, hset _, (below_drewN (Below.refl g w) _).setCell (p := ⟨g, q16, none⟩) (Nat.le_refl g) _⟩
        exact AllReadyH.nil
      exact AllReadyH.nil
    exact AllReadyH.nil
  exact AllReadyH.nil
end Go.Proofs.YtppaffamlfghjaaDoor
