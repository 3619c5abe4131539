/-
  The document's numbers modulo P: what a number is multiplied by to be 1.
  Points as they lie: numbers one behind the other. The document's D, Zero, Base.
  Numbers of four limbs compared as arrays.
-/
import Derived.ChangeKeysEq
import Derived.Deep.MidRow
import Derived.Test.YtlfkohanfeejfaaDoorMac
import Derived.Test.YtlfkohanfeejfaaDoorMad
import Derived.Test.YtlfkohanfeejfaaDoorMaf
namespace Go.Proofs.YtlfkohanfeejfaaDoor
open Go.RowKit

section
attribute [local go_sem ↓] load_fe
theorem two_lims : Value.agg #[.int .u64 2, .int .u64 0, .int .u64 0, .int .u64 0] = .agg ((lims 2).map nv).toArray := by kernel_rfl

set_option maxRecDepth 100000 in
set_option maxHeartbeats 4000000 in
theorem rInv_any (m : Nat) (w : World) (hm : m < big) :
    Calls Tryd.prog 59 #[fev m] w (GaveF w (finv (toF m)).val) := by
  obtain ⟨hA, hC, hb, hsz⟩ := fe_start2 w m 0 _ #[.int .u64 0, .int .u64 0, .int .u64 0, .int .u64 0] rfl (by kernel_rfl)
  obtain ⟨r, hr⟩ : ∃ r, r = finv (toF m) := ⟨_, rfl⟩
  obtain ⟨p, hp⟩ : ∃ p, p = PP - 2 := ⟨_, rfl⟩
  have PR : Hid (∀ W, Calls Tryd.prog 63 #[] W fun e w' => e = .returned (.agg ((lims PP).map nv).toArray) ∧ Below W.heap.size W w') := Lib.hid fun W => rprime_any W
  have TK : Hid (∀ W, Calls Tryd.prog 62 #[.agg ((lims PP).map nv).toArray, .agg #[.int .u64 2, .int .u64 0, .int .u64 0, .int .u64 0]] W fun e w' => e = .returned (.agg ((lims p).map nv).toArray) ∧ Below W.heap.size W w') := Lib.hid fun W => by
    rw [hp, two_lims]
    exact rtake_any PP 2 W (by decide) (by decide)
  have PW : Hid (∀ W, Calls Tryd.prog 60 #[.agg ((lims m).map nv).toArray, .agg ((lims p).map nv).toArray] W fun e w' => e = .returned (.agg ((lims r.val).map nv).toArray) ∧ Below W.heap.size W w') := Lib.hid fun W => by
    have h := rPower_any m p W hm (by rw [hp]; decide)
    have e : fpow (toF m) p = r := by rw [hr, hp]; rfl
    rw [e] at h
    exact h
  rw [fev_eq, ← hr]
  clear hr hp
  go_enter Tryd.func59, Tryd.ntmps59
  go_wp2_with fail
  generalize (w.alloc (.cells ((lims m).map nv).toArray 24)).alloc (.cells #[.int .u64 0, .int .u64 0, .int .u64 0, .int .u64 0] 24) = wv at *
  refine wp_region_noPanic ?_
  refine wp_region_held_drew (S := (fun W => (loadFe 24 ⟨w.heap.size, 0, none⟩).run Tryd.prog W = .ok (.agg ((lims m).map nv).toArray) W)) (by kernel_rfl) (by (try dsimp only); (first | exact run_loadFe hA | exact run_loadFe X1 | exact run_loadFe X2 | exact run_loadFe X3 | exact run_loadFe X5)) (fun hHeld => ?_)
  refine wpAnyH_take (i := 0) (v := ?_) rfl (by kernel_rfl) (by kernel_rfl) (by kernel_rfl) (fun _ _ _ h => h) (Or.inl ⟨by rfl, ?_⟩) (by assumption) ?_
  rotate_left
  · intro w hSw; (try dsimp only at hSw); go_simp <;> with_reducible rfl
  try simp only [Act.put, List.getElem_toArray, List.getElem_cons_zero, List.setIfInBounds_toArray, List.set_cons_zero, List.set_cons_succ]
  refine wpAnyH_take (i := 2) (v := ?_) rfl (by kernel_rfl) (by kernel_rfl) (by kernel_rfl) (fun _ _ _ h => h) (Or.inl ⟨by rfl, ?_⟩) (by assumption) ?_
  rotate_left
  · intro w hSw; (try dsimp only at hSw); go_simp <;> with_reducible rfl
  try simp only [Act.put, List.getElem_toArray, List.getElem_cons_succ, List.getElem_cons_zero, List.setIfInBounds_toArray, List.set_cons_zero, List.set_cons_succ]
  refine wpAnyH_ready (rs := [1]) (by kernel_rfl) (by simp) ?_
  refine AllReadyH.cons rfl (fun K hK => ?_) AllReadyH.nil
  go_simp
  ((first | (go_at_call 63; refine (PR.out _).mono ?_; rintro e w1 ⟨rfl, hb1⟩; have X1 := HoldsN.keep (W := wv.drew) hA hb1 hA.lt; have Z1 := HoldsN.keep (W := wv.drew) hC hb1 hC.lt; have B1 := hb.drew.trans (hb1.mono hb.size)) | (go_at_call 62; refine (TK.out _).mono ?_; rintro e w2 ⟨rfl, hb2⟩; have X2 := X1.keep hb2 X1.lt; have Z2 := Z1.keep hb2 Z1.lt; have B2 := B1.trans (hb2.mono B1.size)) | (go_at_call 60; refine (PW.out _).mono ?_; rintro e w3 ⟨rfl, hb3⟩; have X3 := X2.keep hb3 X2.lt; have Z3 := Z2.keep hb3 Z2.lt; have B3 := B2.trans (hb3.mono B2.size)) | (refine step_store_fe (by rfl) 24 (.tmp 2) (.tmp 7) (by rfl) (w.heap.size + 1) r.val (by rfl) (by rfl) _ Z3 Tryd.infoFe (by rfl) w.heap.size w B3 (Nat.le_succ _) ?_; intro w5 Hg5 o5 s5 B5; have X5 := X3.oth o5 (by omega))))
  dsimp only
  refine hK.out _ _ ?_ (fun hHeld => ?_)
  · (try dsimp only); (first | exact run_loadFe hA | exact run_loadFe X1 | exact run_loadFe X2 | exact run_loadFe X3 | exact run_loadFe X5)
  clear hK K
  try simp only [Act.put, List.getElem_toArray, List.getElem_cons_succ, List.getElem_cons_zero, List.setIfInBounds_toArray, List.set_cons_zero, List.set_cons_succ]
  refine wpAnyH_ready (rs := [3]) (by kernel_rfl) (by simp) ?_
  refine AllReadyH.cons rfl (fun K hK => ?_) AllReadyH.nil
  go_simp
  ((first | (go_at_call 63; refine (PR.out _).mono ?_; rintro e w1 ⟨rfl, hb1⟩; have X1 := HoldsN.keep (W := wv.drew) hA hb1 hA.lt; have Z1 := HoldsN.keep (W := wv.drew) hC hb1 hC.lt; have B1 := hb.drew.trans (hb1.mono hb.size)) | (go_at_call 62; refine (TK.out _).mono ?_; rintro e w2 ⟨rfl, hb2⟩; have X2 := X1.keep hb2 X1.lt; have Z2 := Z1.keep hb2 Z1.lt; have B2 := B1.trans (hb2.mono B1.size)) | (go_at_call 60; refine (PW.out _).mono ?_; rintro e w3 ⟨rfl, hb3⟩; have X3 := X2.keep hb3 X2.lt; have Z3 := Z2.keep hb3 Z2.lt; have B3 := B2.trans (hb3.mono B2.size)) | (refine step_store_fe (by rfl) 24 (.tmp 2) (.tmp 7) (by rfl) (w.heap.size + 1) r.val (by rfl) (by rfl) _ Z3 Tryd.infoFe (by rfl) w.heap.size w B3 (Nat.le_succ _) ?_; intro w5 Hg5 o5 s5 B5; have X5 := X3.oth o5 (by omega))))
  dsimp only
  refine hK.out _ _ ?_ (fun hHeld => ?_)
  · (try dsimp only); (first | exact run_loadFe hA | exact run_loadFe X1 | exact run_loadFe X2 | exact run_loadFe X3 | exact run_loadFe X5)
  clear hK K
  try simp only [Act.put, List.getElem_toArray, List.getElem_cons_succ, List.getElem_cons_zero, List.setIfInBounds_toArray, List.set_cons_zero, List.set_cons_succ]
  refine wpAnyH_ready (rs := [4]) (by kernel_rfl) (by simp) ?_
  refine AllReadyH.cons rfl (fun K hK => ?_) AllReadyH.nil
  go_simp
  ((first | (go_at_call 63; refine (PR.out _).mono ?_; rintro e w1 ⟨rfl, hb1⟩; have X1 := HoldsN.keep (W := wv.drew) hA hb1 hA.lt; have Z1 := HoldsN.keep (W := wv.drew) hC hb1 hC.lt; have B1 := hb.drew.trans (hb1.mono hb.size)) | (go_at_call 62; refine (TK.out _).mono ?_; rintro e w2 ⟨rfl, hb2⟩; have X2 := X1.keep hb2 X1.lt; have Z2 := Z1.keep hb2 Z1.lt; have B2 := B1.trans (hb2.mono B1.size)) | (go_at_call 60; refine (PW.out _).mono ?_; rintro e w3 ⟨rfl, hb3⟩; have X3 := X2.keep hb3 X2.lt; have Z3 := Z2.keep hb3 Z2.lt; have B3 := B2.trans (hb3.mono B2.size)) | (refine step_store_fe (by rfl) 24 (.tmp 2) (.tmp 7) (by rfl) (w.heap.size + 1) r.val (by rfl) (by rfl) _ Z3 Tryd.infoFe (by rfl) w.heap.size w B3 (Nat.le_succ _) ?_; intro w5 Hg5 o5 s5 B5; have X5 := X3.oth o5 (by omega))))
  dsimp only
  refine hK.out _ _ ?_ (fun hHeld => ?_)
  · (try dsimp only); (first | exact run_loadFe hA | exact run_loadFe X1 | exact run_loadFe X2 | exact run_loadFe X3 | exact run_loadFe X5)
  clear hK K
  try simp only [Act.put, List.getElem_toArray, List.getElem_cons_succ, List.getElem_cons_zero, List.setIfInBounds_toArray, List.set_cons_zero, List.set_cons_succ]
  refine wpAnyH_ready (rs := [5]) (by kernel_rfl) (by simp) ?_
  refine AllReadyH.cons rfl (fun K hK => ?_) AllReadyH.nil
  ((first | (go_at_call 63; refine (PR.out _).mono ?_; rintro e w1 ⟨rfl, hb1⟩; have X1 := HoldsN.keep (W := wv.drew) hA hb1 hA.lt; have Z1 := HoldsN.keep (W := wv.drew) hC hb1 hC.lt; have B1 := hb.drew.trans (hb1.mono hb.size)) | (go_at_call 62; refine (TK.out _).mono ?_; rintro e w2 ⟨rfl, hb2⟩; have X2 := X1.keep hb2 X1.lt; have Z2 := Z1.keep hb2 Z1.lt; have B2 := B1.trans (hb2.mono B1.size)) | (go_at_call 60; refine (PW.out _).mono ?_; rintro e w3 ⟨rfl, hb3⟩; have X3 := X2.keep hb3 X2.lt; have Z3 := Z2.keep hb3 Z2.lt; have B3 := B2.trans (hb3.mono B2.size)) | (refine step_store_fe (by rfl) 24 (.tmp 2) (.tmp 7) (by rfl) (w.heap.size + 1) r.val (by rfl) (by rfl) _ Z3 Tryd.infoFe (by rfl) w.heap.size w B3 (Nat.le_succ _) ?_; intro w5 Hg5 o5 s5 B5; have X5 := X3.oth o5 (by omega))))
  refine hK.out _ _ ?_ (fun hHeld => ?_)
  · (try dsimp only); (first | exact run_loadFe hA | exact run_loadFe X1 | exact run_loadFe X2 | exact run_loadFe X3 | exact run_loadFe X5)
  clear hK K
  try simp only [Act.put, List.getElem_toArray, List.getElem_cons_succ, List.getElem_cons_zero]
  refine wpAnyH_done (by kernel_rfl) ?_ _
  refine NoPanic.normal ?_
  go_wp2
  exact bodyPost_ret (results_cell_row rfl _ _ (w.heap.size + 1) _ _ _ _ rfl Hg5 Tryd.underlying24 rfl (by rw [Tryd.infoFe]; rfl)) rfl ⟨rfl, B5⟩
end
end Go.Proofs.YtlfkohanfeejfaaDoor

namespace Go.Proofs.YtlfkohanfeejfaaDoor
open Go.RowKit

/-- Numbers of four limbs, one behind the other. -/
def limsL : List Nat → List Nat
  | [] => []
  | x :: xs => lims x ++ limsL xs
theorem limsL_length : ∀ xs, (limsL xs).length = 4 * xs.length
  | [] => rfl
  | x :: xs => by simp only [limsL, List.length_append, lims_length, limsL_length xs, List.length_cons]; omega
theorem limsL_at : ∀ (xs : List Nat) (i j : Nat) (hi : i < xs.length), j < 4 → (limsL xs)[4 * i + j]? = (lims xs[i])[j]?
  | x :: xs, 0, j, _, hj => by
    simp only [limsL, Nat.mul_zero, Nat.zero_add, List.getElem_cons_zero]
    rw [List.getElem?_append_left (by rw [lims_length]; exact hj)]
  | x :: xs, i + 1, j, hi, hj => by
    simp only [limsL, List.getElem_cons_succ]
    rw [List.getElem?_append_right (by rw [lims_length]; omega), lims_length, show 4 * (i + 1) + j - 4 = 4 * i + j by omega]
    exact limsL_at xs i j (by simpa using hi) hj
/-- A point. -/
def ptv (x y : Nat) : Value := .agg ((limsL [x, y]).map nv).toArray
theorem Tryd.infoPt : (Tryd.prog.info? 26).map (·.size) = some 8 := by kernel_rfl
/-- A number out of what lies one behind the other. -/
theorem range_at {w : World} {ty g : Nat} {xs : List Nat} (h : HoldsN w ty g (limsL xs)) (i : Nat) (hi : i < xs.length) : w.rangeAt g (4 * i) ((lims xs[i]).map nv) := fun j v hj => by
  have hj4 : j < 4 := by
    have := (List.getElem?_eq_some_iff.1 hj).1
    rwa [List.length_map, lims_length] at this
  rw [cell_of_row w g (4 * i + j) _ ty (0, 0) h, List.getElem?_toArray, List.getElem?_map, limsL_at xs i j hi hj4, ← List.getElem?_map]
  exact hj
theorem run_loadAt_fe {w : World} {ty g : Nat} {xs : List Nat} (h : HoldsN w ty g (limsL xs)) (i : Nat) (hi : i < xs.length) :
    (loadVar 24 ⟨g, 4 * i, none⟩).run Tryd.prog w = .ok (.agg ((lims xs[i]).map nv).toArray) w :=
  run_loadVar_mid w g (4 * i) 24 _ _ (range_at h i hi) Tryd.underlying24 rfl (by rw [Tryd.infoFe, List.length_map, lims_length])

set_option maxRecDepth 100000 in
theorem rDee_any (w : World) : Calls Tryd.prog 30 #[] w (GaveF w DEE) := by
  obtain ⟨z0, b0, _⟩ := fe_start w 0 #[.int .u64 0, .int .u64 0, .int .u64 0, .int .u64 0] (by kernel_rfl)
  have hP : Hid (Value.agg #[.int .u64 8496970652267935907, .int .u64 31536524315187371, .int .u64 10144147576115030168, .int .u64 5909686906226998899] = .agg ((lims DEE).map nv).toArray) := Lib.hid (by kernel_rfl)
  go_enter Tryd.func30, Tryd.ntmps30
  go_wp2_with (with_reducible refine wpList_store_n rfl 24 (.tmp 0) (.tmp 1) rfl w.heap.size (lims DEE) 4 rfl (by with_unfolding_all exact hP.out) rfl (lims 0) (by with_unfolding_all exact z0) Tryd.infoFe rfl w.heap.size w (by with_unfolding_all exact b0) (Nat.le_refl _) ?_; intro w2 Hg _ _ hb2)
  exact bodyPost_ret (results_cell_row rfl _ _ w.heap.size _ _ _ _ rfl Hg Tryd.underlying24 rfl (by rw [Tryd.infoFe]; rfl)) rfl ⟨rfl, hb2⟩

def ptz : Array Value := ((limsL [0, 0]).map nv).toArray
theorem pt_new (w : World) : HoldsN (w.alloc (.cells ptz 26)) 26 w.heap.size (limsL [0, 0]) := holdsN_new w _ _ _ _ rfl rfl
theorem Tryd.builtZero : Tryd.prog.built 26 [(1, .agg #[.int .u64 1, .int .u64 0, .int .u64 0, .int .u64 0])] = some ((limsL [0, 1]).map nv).toArray := by kernel_rfl

/-- What gives a point. -/
def GaveP (w : World) (x y : Nat) (e : Ending) (w' : World) : Prop := e = .returned (ptv x y) ∧ Below w.heap.size w w'

set_option maxRecDepth 100000 in
theorem rZero_any (w : World) : Calls Tryd.prog 32 #[] w (GaveP w 0 1) := by
  have z0 := pt_new w
  have b0 := (Below.refl w.heap.size w).alloc (Nat.le_refl _) (.cells ptz 26)
  go_enter Tryd.func32, Tryd.ntmps32
  go_wp2_with (first
    | (with_reducible refine wpList_buildTo rfl 26 #[(1, .tmp 1)] rfl (some 2) rfl ((limsL [0, 1]).map nv).toArray (by with_unfolding_all exact Tryd.builtZero) ?_)
    | (with_reducible refine wpList_store_n rfl 26 (.tmp 0) (.tmp 2) rfl w.heap.size (limsL [0, 1]) 8 rfl rfl rfl (limsL [0, 0]) (by with_unfolding_all exact z0) Tryd.infoPt rfl w.heap.size w (by with_unfolding_all exact b0) (Nat.le_refl _) ?_; intro w2 Hg _ _ hb2))
  exact bodyPost_ret (results_cell_row rfl _ _ w.heap.size _ _ _ _ rfl Hg Tryd.underlying26 rfl (by rw [Tryd.infoPt]; rfl)) rfl ⟨rfl, hb2⟩

theorem Tryd.builtBase : Tryd.prog.built 26 [(0, .agg #[.int .u64 14507833142362363162, .int .u64 7578651490590762930, .int .u64 13881468655802702940, .int .u64 2407515759118799870]), (1, .agg #[.int .u64 7378697629483820632, .int .u64 7378697629483820646, .int .u64 7378697629483820646, .int .u64 7378697629483820646])] = some ((limsL [BX, BY]).map nv).toArray := by kernel_rfl
set_option maxRecDepth 100000 in
theorem rBase_any (w : World) : Calls Tryd.prog 42 #[] w (GaveP w BX BY) := by
  have z0 := pt_new w
  have b0 := (Below.refl w.heap.size w).alloc (Nat.le_refl _) (.cells ptz 26)
  have hb := Lib.hid Tryd.builtBase
  generalize BX = bx at *
  generalize BY = by' at *
  go_enter Tryd.func42, Tryd.ntmps42
  go_wp2_with (first
    | (with_reducible refine wpList_buildTo rfl 26 #[(0, .tmp 1), (1, .tmp 2)] rfl (some 3) rfl ((limsL [bx, by']).map nv).toArray (by with_unfolding_all exact hb.out) ?_)
    | (with_reducible refine wpList_store_n rfl 26 (.tmp 0) (.tmp 3) rfl w.heap.size (limsL [bx, by']) 8 rfl rfl rfl (limsL [0, 0]) (by with_unfolding_all exact z0) Tryd.infoPt rfl w.heap.size w (by with_unfolding_all exact b0) (Nat.le_refl _) ?_; intro w2 Hg _ _ hb2))
  exact bodyPost_ret (results_cell_row rfl _ _ w.heap.size _ _ _ _ rfl Hg Tryd.underlying26 rfl (by rw [Tryd.infoPt]; rfl)) rfl ⟨rfl, hb2⟩
end Go.Proofs.YtlfkohanfeejfaaDoor

namespace Go.Proofs.YtlfkohanfeejfaaDoor
open Go.RowKit

theorem Tryd.plainU64 : Tryd.prog.plainKey 22 = true := by kernel_rfl
theorem Tryd.cellsU64 : Tryd.prog.cellsOf 22 = 1 := by kernel_rfl
theorem Tryd.infoU64 : (Tryd.prog.info? 22).map (fun i => (i.zero, i.size, i.bytes)) = some (some (.int .u64 0), 1, 8) := by kernel_rfl

theorem run_eql_fe (m n : Nat) (w : World) (hm : m < big) (hn : n < big) : (binOp .eql 24 (.agg ((lims m).map nv).toArray) (.agg ((lims n).map nv).toArray)).run Tryd.prog w = .ok (.bool (decide (m = n))) w := by
  obtain ⟨i, hi, _⟩ := info_parts Tryd.infoU64
  have em : ∀ k : Nat, (lims k).map nv = ((lims k).map fun x : Nat => (x : Int)).map (Value.int .u64) := fun k => by rw [List.map_map]; rfl
  rw [em, em]
  have h := run_equalIn_array (P := Tryd.prog) w 9999 (((lims m).map fun x : Nat => (x : Int)).map (Value.int .u64)).toArray (((lims n).map fun x : Nat => (x : Int)).map (Value.int .u64)).toArray Tryd.underlying24 hi
  rw [Tryd.cellsU64, eqItems_ints Tryd.underlying22 Tryd.plainU64 9998 _ _ _ (fun i hi => by simp only [List.length_map, lims_length]; exact ⟨List.mem_range.1 hi, List.mem_range.1 hi⟩), lims_eq] at h
  have hd : decide (lims m = lims n) = decide (m = n) := by
    by_cases e : m = n
    · rw [decide_eq_true e, decide_eq_true (by rw [e])]
    · rw [decide_eq_false e, decide_eq_false (fun h => e (lims_inj hm hn h))]
  rw [hd] at h
  generalize (((lims m).map fun x : Nat => (x : Int)).map (Value.int .u64)).toArray = xs at *
  generalize (((lims n).map fun x : Nat => (x : Int)).map (Value.int .u64)).toArray = ys at *
  simp only [binOp]
  simp [Op.equal, Op.maxDepth, h]
theorem run_guard_fe (x y : Operand) (a b : Array Value) (w : World) : (eqGuard .eql 24 x y (.agg a) (.agg b)).run Tryd.prog w = .ok () w := by
  simp [eqGuard]
theorem run_eql_F (a b : F) (w : World) : (binOp .eql 24 (.agg ((lims a.val).map nv).toArray) (.agg ((lims b.val).map nv).toArray)).run Tryd.prog w = .ok (.bool (decide (a = b))) w := by
  have h := run_eql_fe a.val b.val w (F.lt_big a) (F.lt_big b)
  rw [show decide (a.val = b.val) = decide (a = b) by
    by_cases e : a = b
    · rw [decide_eq_true e, decide_eq_true (congrArg Fin.val e)]
    · rw [decide_eq_false e, decide_eq_false (fun h => e (Fin.ext h))]] at h
  exact h
end Go.Proofs.YtlfkohanfeejfaaDoor
